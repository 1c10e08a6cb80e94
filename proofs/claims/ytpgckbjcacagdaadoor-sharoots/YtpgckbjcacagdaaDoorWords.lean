/- What firstHash and wordsToBytes answer. -/
import Derived.Test.YtpgckbjcacagdaaDoorOps
namespace Go.Proofs.YtpgckbjcacagdaaDoor
open Go.RowKit
attribute [local go_sem] run_add_U run_xor_U run_and_U run_or_U run_not_U run_shr_U run_shl_U run_xor_B run_or_B run_eql_B convBU convUB
attribute [local go_sem] match_U match_B run_cells_U run_cells_B run_store_U run_store_B
attribute [local go_sem ↓] storeAt_U storeAt_B

/-- A block of n cells that is new, whatever it holds, is there to be written. -/
theorem there_new (w : World) (c : Array Value) (t : TypeId) (n : Nat) (h : c.size = n) : (w.alloc (.cells c t)).there w.heap.size 0 n := by
  have := (Blk.new w c.toList t).there 0 n (by simp [h])
  simpa using this
/-- A new block that is written over whole. -/
theorem blk_over_new (w : World) (c : Array Value) (t : TypeId) (R : List Value) (h : c.size = R.length) : Blk ((w.alloc (.cells c t)).setCells w.heap.size 0 R) w.heap.size R t := by
  have h2 : Blk (w.alloc (.cells c t)) w.heap.size c.toList t := by simpa using Blk.new w c.toList t
  have := Blk.setCells R 0 h2 (by simp [h])
  have e : over c.toList 0 R = R := by simp [over, ← h]
  rw [e] at this
  exact this

theorem run_index37 (w : World) (cs : List Word) (k : Nat) (hk : k < 8) (x : Word) (hx : cs[k]? = some x) : (Instr.index 37 (.agg (cs.map U).toArray) (.int .i64 k)).run Tryd.prog w = .ok (U x) w := by
  simp [Instr.index, go_sem, hk, hx]
theorem first_any (w : World) : Calls Tryd.prog 27 #[] w fun e w' => e = .returned (.agg (H0.list.map U).toArray) ∧ Below w.heap.size w w' := by
  have hi37 : (Tryd.prog.info? 37).map (·.size) = some (H0.list.map U).length := size37
  have hlen : (H0.list.map U).length = 8 := rfl
  have hex : ∃ R : List Value, R = H0.list.map U := ⟨_, rfl⟩
  obtain ⟨R, hR⟩ := hex
  rw [← hR] at hi37 hlen
  have hone : Hid (∀ v ∈ R, v.oneCell' = true) := by rw [hR]; exact mapU_one _
  have HR : Hid (∀ v, v = Value.agg (H0.list.map U).toArray → v = .agg R.toArray) := by rintro v rfl; rw [hR]
  have HR2 : Hid (∀ v, v = R → (H0.list.map U) = v) := by rintro v rfl; rw [hR]
  clear hR
  go_enter Tryd.func27, Tryd.ntmps27
  go_wp2_with (first
        | ((with_reducible refine wpL_store 37 w.heap.size 0 R ?_ ?_ ?_ hi37 hone.out ?_); (rfl); (exact HR.out _ rfl); (rw [hlen]; exact there_new w _ 37 8 rfl); (simp only [Act.put])))
  exact bodyPost_ret (results_array Tryd.results27 rfl (blk_over_new w _ 37 R (by rw [hlen]; rfl)) Tryd.underlying37 rfl hi37) rfl ⟨by rw [HR2.out R rfl], Below.setCells ((Below.refl _ _).alloc (Nat.le_refl _) _) (Nat.le_refl _) _ _⟩

set_option maxHeartbeats 1000000 in
theorem words_any (s : St) (w : World) : Calls Tryd.prog 30 #[.agg (s.list.map U).toArray] w fun e w' => e = .returned (.agg ((bytesOf s.list).map B8).toArray) ∧ Below w.heap.size w w' := by
  have hi37 : (Tryd.prog.info? 37).map (·.size) = some (s.list.map U).length := size37
  have hsl : s.list.length = 8 := rfl
  generalize s.list = ws at *
  have hr : ∀ o1 o2, (((w.alloc (.cells (ws.map U).toArray 37)).alloc o1).alloc o2).rangeAt w.heap.size 0 (ws.map U) := fun o1 o2 =>
    (((Blk.new w (ws.map U) 37).alloc _).alloc _).range
  go_enter Tryd.func30, Tryd.ntmps30
  go_wp2_with (first
    | ((with_reducible refine wpL_load 37 w.heap.size 0 (ws.map U) _ ?_ (hr _ _) Tryd.underlying37 ?_ hi37 ?_); (rfl); (rfl); (simp only [Act.put, List.setIfInBounds_toArray, List.set_cons_zero, List.set_cons_succ])))
  clear hr
  go_loopw [7] (fun i wr => ∃ k : Nat, k ≤ 8 ∧ i = .int .i64 k ∧ Blk wr (w.heap.size + 1) (zB 32) 26 ∧ Blk wr (w.heap.size + 1 + 1) ((outTo ws k).map B8) 26 ∧ Below w.heap.size w wr) (fun i _ => 8 - (intOf i).toNat)
  case atStart =>
    refine ⟨0, by omega, rfl, ?_, ?_, ?_⟩
    · exact (Blk.new' _ (zB 32) _ _ (by simp)).alloc _
    · exact Blk.new' _ ((outTo ws 0).map B8) _ _ (by simp)
    · exact (((Below.refl _ _).alloc (Nat.le_refl _) _).alloc (by simp) _).alloc (by simp; omega) _
  case round =>
    obtain ⟨k, hk, rfl, hb1, hb2, hbe⟩ := hrel
    have hol := outTo_length ws k hsl hk
    by_cases hlt : k < 8
    · have hlt' : (k : Int) < 8 := by omega
      have hi0 : (0 : Int) ≤ (k : Int) := by omega
      have hx : ∃ x, ws[k]? = some x := ⟨_, List.getElem?_eq_getElem (by omega)⟩
      obtain ⟨x, hx⟩ := hx
      have hix := fun w' => run_index37 w' ws k hlt x hx
      have w0 : IntKind.i64.wrap (4 * (k : Int)) = 4 * (k : Int) := by rw [IntKind.wrap_i64]; omega
      have w1 : IntKind.i64.wrap (4 * (k : Int) + 1) = 4 * (k : Int) + 1 := by rw [IntKind.wrap_i64]; omega
      have w2 : IntKind.i64.wrap (4 * (k : Int) + 2) = 4 * (k : Int) + 2 := by rw [IntKind.wrap_i64]; omega
      have w3 : IntKind.i64.wrap (4 * (k : Int) + 3) = 4 * (k : Int) + 3 := by rw [IntKind.wrap_i64]; omega
      have p0 : (0 : Int) ≤ 4 * (k : Int) := by omega
      have p1 : (0 : Int) ≤ 4 * (k : Int) + 1 := by omega
      have p2 : (0 : Int) ≤ 4 * (k : Int) + 2 := by omega
      have p3 : (0 : Int) ≤ 4 * (k : Int) + 3 := by omega
      have q0 : 4 * (k : Int) < 32 := by omega
      have q1 : 4 * (k : Int) + 1 < 32 := by omega
      have q2 : 4 * (k : Int) + 2 < 32 := by omega
      have q3 : 4 * (k : Int) + 3 < 32 := by omega
      have t0 : (4 * (k : Int)).toNat = 4 * k := by omega
      have t1 : (4 * (k : Int) + 1).toNat = 4 * k + 1 := by omega
      have t2 : (4 * (k : Int) + 2).toNat = 4 * k + 2 := by omega
      have t3 : (4 * (k : Int) + 3).toNat = 4 * k + 3 := by omega
      have f0 := hb2.frozen (4 * k)
      have c0 := hb2.cellB (j := 4 * k) (by omega)
      have hb3 := hb2.set (4 * k) (B8 ((x >>> 24).setWidth 8))
      have f1 := hb3.frozen (4 * k + 1)
      rw [set_mapB] at hb3
      have c1 := hb3.cellB (j := 4 * k + 1) (by rw [List.length_set]; omega)
      have hb4 := hb3.set (4 * k + 1) (B8 ((x >>> 16).setWidth 8))
      have f2 := hb4.frozen (4 * k + 2)
      rw [set_mapB] at hb4
      have c2 := hb4.cellB (j := 4 * k + 2) (by rw [List.length_set, List.length_set]; omega)
      have hb5 := hb4.set (4 * k + 2) (B8 ((x >>> 8).setWidth 8))
      have f3 := hb5.frozen (4 * k + 3)
      rw [set_mapB] at hb5
      have c3 := hb5.cellB (j := 4 * k + 3) (by rw [List.length_set, List.length_set, List.length_set]; omega)
      have hb6 := hb5.set (4 * k + 3) (B8 (x.setWidth 8))
      rw [set_mapB, outTo_set ws k hsl hlt x hx] at hb6
      have hb1' := (((hb1.set_ne ⟨w.heap.size + 1 + 1, 4 * k, none⟩ (by show _ + 1 ≠ _ + 1 + 1; omega) (B8 ((x >>> 24).setWidth 8))).set_ne ⟨w.heap.size + 1 + 1, 4 * k + 1, none⟩ (by show _ + 1 ≠ _ + 1 + 1; omega) (B8 ((x >>> 16).setWidth 8))).set_ne ⟨w.heap.size + 1 + 1, 4 * k + 2, none⟩ (by show _ + 1 ≠ _ + 1 + 1; omega) (B8 ((x >>> 8).setWidth 8))).set_ne ⟨w.heap.size + 1 + 1, 4 * k + 3, none⟩ (by show _ + 1 ≠ _ + 1 + 1; omega) (B8 (x.setWidth 8))
      have hbe' := (((hbe.setCell (p := ⟨w.heap.size + 1 + 1, 4 * k, none⟩) (by show _ ≤ _ + 1 + 1; omega) (B8 ((x >>> 24).setWidth 8))).setCell (p := ⟨w.heap.size + 1 + 1, 4 * k + 1, none⟩) (by show _ ≤ _ + 1 + 1; omega) (B8 ((x >>> 16).setWidth 8))).setCell (p := ⟨w.heap.size + 1 + 1, 4 * k + 2, none⟩) (by show _ ≤ _ + 1 + 1; omega) (B8 ((x >>> 8).setWidth 8))).setCell (p := ⟨w.heap.size + 1 + 1, 4 * k + 3, none⟩) (by show _ ≤ _ + 1 + 1; omega) (B8 (x.setWidth 8))
      clear hb3 hb4 hb5
      generalize (outTo ws k).getD (4 * k) 0 = y0 at c0
      generalize (((outTo ws k).set (4 * k) ((x >>> 24).setWidth 8)).getD (4 * k + 1) 0) = y1 at c1
      generalize ((((outTo ws k).set (4 * k) ((x >>> 24).setWidth 8)).set (4 * k + 1) ((x >>> 16).setWidth 8)).getD (4 * k + 2) 0) = y2 at c2
      generalize (((((outTo ws k).set (4 * k) ((x >>> 24).setWidth 8)).set (4 * k + 1) ((x >>> 16).setWidth 8)).set (4 * k + 2) ((x >>> 8).setWidth 8)).getD (4 * k + 3) 0) = y3 at c3
      go_wp2
      go_roundw
      case rel => exact ⟨k + 1, by omega, by go_num, hb1', hb6, hbe'⟩
      case measure => simp [intOf]; omega
    · have hk8 : k = 8 := by omega
      rw [hk8, outTo_all ws hsl] at hb2
      clear hk8
      have hbl : (bytesOf ws).length = 32 := by rw [bytesOf_length, hsl]
      have hi26 : (Tryd.prog.info? 26).map (·.size) = some ((bytesOf ws).map B8).length := by rw [List.length_map, hbl]; exact size26
      have hr := hb2.range
      have ht := hb1.there 0 ((bytesOf ws).map B8).length (by rw [List.length_map, hbl, zB_length]; omega)
      have hbr := Blk.setCells ((bytesOf ws).map B8) 0 hb1 (by rw [List.length_map, hbl, zB_length]; omega)
      rw [show over (zB 32) 0 ((bytesOf ws).map B8) = (bytesOf ws).map B8 by simp [over, zB, hbl]] at hbr
      have hbe' := Below.setCells hbe (b := w.heap.size + 1) (by omega) 0 ((bytesOf ws).map B8)
      have hone : Hid (∀ v ∈ (bytesOf ws).map B8, v.oneCell' = true) := mapB_one _
      go_wp2_with (first
        | ((with_reducible refine wpL_load 26 (w.heap.size + 1 + 1) 0 ((bytesOf ws).map B8) _ ?_ hr Tryd.underlying26 ?_ hi26 ?_); (rfl); (rfl); (simp only [Act.put, List.setIfInBounds_toArray, List.set_cons_zero, List.set_cons_succ]))
        | ((with_reducible refine wpL_store 26 (w.heap.size + 1) 0 ((bytesOf ws).map B8) ?_ ?_ ht hi26 hone.out ?_); (rfl); (rfl); (simp only [Act.put])))
      exact bodyPost_ret (results_array Tryd.results30 rfl hbr Tryd.underlying26 rfl hi26) rfl ⟨rfl, hbe'⟩
end Go.Proofs.YtpgckbjcacagdaaDoor
