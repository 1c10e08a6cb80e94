/- What expand answers: the 64 words of a block's schedule. -/
import Derived.Test.YtpgckbjcacagdaaDoorLeaf
import Derived.Test.YtpgckbjcacagdaaDoorOps
import Derived.Deep.RegionHeld3
import Derived.Deep.DrawnRows
namespace Go.Proofs.YtpgckbjcacagdaaDoor
open Go.RowKit
attribute [local go_sem] run_add_U run_xor_U run_and_U run_or_U run_not_U run_shr_U run_shl_U run_xor_B run_or_B run_eql_B convBU
attribute [local go_sem] match_U match_B run_cells_U run_cells_B run_store_U run_store_B
attribute [local go_sem ↓] storeAt_U storeAt_B alloc44
attribute [local go_sem ↓] Go.wp_at_zero Go.wp_at_succ

set_option maxHeartbeats 1000000 in
theorem expand_any (l : List Byte) (hl : l.length = 64) (w : World) :
    Calls Tryd.prog 34 #[.agg (l.map B8).toArray] w fun e w' => e = .returned (.agg ((sched l 64).map U).toArray) ∧ Below w.heap.size w w' := by
  go_enter Tryd.func34, Tryd.ntmps34
  go_wp2
  go_loopw [6] (fun i wr => ∃ k : Nat, k ≤ 16 ∧ i = .int .i64 k ∧ Blk wr w.heap.size (l.map B8) 38 ∧ Blk wr (w.heap.size + 1) (zU 64) 44 ∧ Blk wr (w.heap.size + 1 + 1) ((sched0 l k).map U) 44 ∧ wr.heap.size = w.heap.size + 3 ∧ Below w.heap.size w wr) (fun i _ => 16 - (intOf i).toNat)
  case atStart =>
    refine ⟨0, by omega, rfl, ?_, ?_, ?_, by simp, ?_⟩
    · exact ((Blk.new w _ _).alloc _).alloc _
    · exact (Blk.new' _ _ _ _ (by simp)).alloc _
    · exact Blk.new' _ (zU 64) _ _ (by simp)
    · exact (((Below.refl _ _).alloc (Nat.le_refl _) _).alloc (by simp) _).alloc (by simp; omega) _
  case round =>
    obtain ⟨k, hk, rfl, hb0, hb1, hb2, hsz, hbe⟩ := hrel
    by_cases hlt : k < 16
    · have w0 : IntKind.i64.wrap (4 * (k : Int)) = 4 * (k : Int) := by rw [IntKind.wrap_i64]; omega
      have w1 : IntKind.i64.wrap (4 * (k : Int) + 1) = 4 * (k : Int) + 1 := by rw [IntKind.wrap_i64]; omega
      have w2 : IntKind.i64.wrap (4 * (k : Int) + 2) = 4 * (k : Int) + 2 := by rw [IntKind.wrap_i64]; omega
      have w3 : IntKind.i64.wrap (4 * (k : Int) + 3) = 4 * (k : Int) + 3 := by rw [IntKind.wrap_i64]; omega
      have p0 : (0 : Int) ≤ 4 * (k : Int) := by omega
      have p1 : (0 : Int) ≤ 4 * (k : Int) + 1 := by omega
      have p2 : (0 : Int) ≤ 4 * (k : Int) + 2 := by omega
      have p3 : (0 : Int) ≤ 4 * (k : Int) + 3 := by omega
      have q0 : 4 * (k : Int) < 64 := by omega
      have q1 : 4 * (k : Int) + 1 < 64 := by omega
      have q2 : 4 * (k : Int) + 2 < 64 := by omega
      have q3 : 4 * (k : Int) + 3 < 64 := by omega
      have q4 : (k : Int) < 64 := by omega
      have hi0 : (0 : Int) ≤ (k : Int) := by omega
      have g0 : wr.cell? ⟨w.heap.size, (4 * (k : Int)).toNat, none⟩ = some (B8 (l.getD (4 * k) 0)) := by
        rw [show (4 * (k : Int)).toNat = 4 * k by omega]; exact hb0.cellB (by omega)
      have g1 : wr.cell? ⟨w.heap.size, (4 * (k : Int) + 1).toNat, none⟩ = some (B8 (l.getD (4 * k + 1) 0)) := by
        rw [show (4 * (k : Int) + 1).toNat = 4 * k + 1 by omega]; exact hb0.cellB (by omega)
      have g2 : wr.cell? ⟨w.heap.size, (4 * (k : Int) + 2).toNat, none⟩ = some (B8 (l.getD (4 * k + 2) 0)) := by
        rw [show (4 * (k : Int) + 2).toNat = 4 * k + 2 by omega]; exact hb0.cellB (by omega)
      have g3 : wr.cell? ⟨w.heap.size, (4 * (k : Int) + 3).toNat, none⟩ = some (B8 (l.getD (4 * k + 3) 0)) := by
        rw [show (4 * (k : Int) + 3).toNat = 4 * k + 3 by omega]; exact hb0.cellB (by omega)
      have f2 := hb2.frozen k
      have c3 : wr.cell? ⟨w.heap.size + 1 + 1, k, none⟩ = some (U ((sched0 l k).getD k 0)) := hb2.cellU (by rw [sched0_length _ _ (by omega)]; omega)
      generalize hx0 : l.getD (4 * k) 0 = x0 at g0
      generalize hx1 : l.getD (4 * k + 1) 0 = x1 at g1
      generalize hx2 : l.getD (4 * k + 2) 0 = x2 at g2
      generalize hx3 : l.getD (4 * k + 3) 0 = x3 at g3
      have HX : Hid (word4 x0 x1 x2 x3 = wordAt l k) := by rw [← hx0, ← hx1, ← hx2, ← hx3]; rfl
      clear hx0 hx1 hx2 hx3
      go_wp2
      go_region_held3 (fun w' => w'.cell? ⟨w.heap.size, (4 * (k : Int)).toNat, none⟩ = some (B8 x0) ∧ w'.cell? ⟨w.heap.size, (4 * (k : Int) + 1).toNat, none⟩ = some (B8 x1) ∧ w'.cell? ⟨w.heap.size, (4 * (k : Int) + 2).toNat, none⟩ = some (B8 x2) ∧ w'.cell? ⟨w.heap.size, (4 * (k : Int) + 3).toNat, none⟩ = some (B8 x3)) (first | exact ⟨g0, g1, g2, g3⟩ | exact ⟨keepCell g0 (by omega) _ _, keepCell g1 (by omega) _ _, keepCell g2 (by omega) _ _, keepCell g3 (by omega) _ _⟩) (fail)
      go_wp2
      go_roundw
      case rel =>
        refine ⟨k + 1, by omega, by go_num, ?_, ?_, ?_, by simpa using hsz, ?_⟩
        · exact (hb0.set_ne _ (by show _ ≠ _ + 1 + 1; omega) _).drew
        · exact (hb1.set_ne _ (by show _ + 1 ≠ _ + 1 + 1; omega) _).drew
        · have h3 := (hb2.set k (U (word4 x0 x1 x2 x3))).drew
          rw [set_mapU, sched0_set l k (by omega) (word4 x0 x1 x2 x3) (by rw [if_pos hlt]; exact HX.out)] at h3
          exact h3
        · exact (hbe.setCell (by show _ ≤ _ + 1 + 1; omega) _).drew
      case measure => simp [intOf]; omega
    · have hk16 : k = 16 := by omega
      rw [hk16] at hb2
      clear hk16
      go_wp2
      clear hk hlt
      go_loopw [5] (fun i wr => ∃ k : Nat, 16 ≤ k ∧ k ≤ 64 ∧ i = .int .i64 k ∧ Blk wr w.heap.size (l.map B8) 38 ∧ Blk wr (w.heap.size + 1) (zU 64) 44 ∧ Blk wr (w.heap.size + 1 + 1) ((sched0 l k).map U) 44 ∧ wr.heap.size = w.heap.size + 3 ∧ Below w.heap.size w wr) (fun i _ => 64 - (intOf i).toNat)
      case atStart => exact ⟨16, by omega, by omega, rfl, hb0, hb1, hb2, hsz, hbe⟩
      case round =>
        clear hb0 hb1 hb2 hsz hbe
        rename Nat => k1
        obtain ⟨k, hk0, hk, rfl, hb0, hb1, hb2, hsz, hbe⟩ := hrel
        by_cases hlt : k < 64
        · have w0 : IntKind.i64.wrap ((k : Int) - 2) = (k : Int) - 2 := by rw [IntKind.wrap_i64]; omega
          have w1 : IntKind.i64.wrap ((k : Int) - 7) = (k : Int) - 7 := by rw [IntKind.wrap_i64]; omega
          have w2 : IntKind.i64.wrap ((k : Int) - 15) = (k : Int) - 15 := by rw [IntKind.wrap_i64]; omega
          have w3 : IntKind.i64.wrap ((k : Int) - 16) = (k : Int) - 16 := by rw [IntKind.wrap_i64]; omega
          have p0 : (2 : Int) ≤ (k : Int) := by omega
          have p1 : (7 : Int) ≤ (k : Int) := by omega
          have p2 : (15 : Int) ≤ (k : Int) := by omega
          have p3 : (16 : Int) ≤ (k : Int) := by omega
          have q0 : (k : Int) - 2 < 64 := by omega
          have q1 : (k : Int) - 7 < 64 := by omega
          have q2 : (k : Int) - 15 < 64 := by omega
          have q3 : (k : Int) - 16 < 64 := by omega
          have t0 : ((k : Int) - 2).toNat = k - 2 := by omega
          have t1 : ((k : Int) - 7).toNat = k - 7 := by omega
          have t2 : ((k : Int) - 15).toNat = k - 15 := by omega
          have t3 : ((k : Int) - 16).toNat = k - 16 := by omega
          have q4 : (k : Int) < 64 := by omega
          have hi0 : (0 : Int) ≤ (k : Int) := by omega
          have hle := sched0_length l k hk
          have g0 : ∃ x, x = (sched l k).getD (k - 2) 0 ∧ wr.cell? ⟨w.heap.size + 1 + 1, k - 2, none⟩ = some (U x) := ⟨_, rfl, by
            rw [← sched0_getD l k (k - 2) (by omega)]; exact hb2.cellU (by omega)⟩
          have g1 : ∃ x, x = (sched l k).getD (k - 7) 0 ∧ wr.cell? ⟨w.heap.size + 1 + 1, k - 7, none⟩ = some (U x) := ⟨_, rfl, by
            rw [← sched0_getD l k (k - 7) (by omega)]; exact hb2.cellU (by omega)⟩
          have g2 : ∃ x, x = (sched l k).getD (k - 15) 0 ∧ wr.cell? ⟨w.heap.size + 1 + 1, k - 15, none⟩ = some (U x) := ⟨_, rfl, by
            rw [← sched0_getD l k (k - 15) (by omega)]; exact hb2.cellU (by omega)⟩
          have g3 : ∃ x, x = (sched l k).getD (k - 16) 0 ∧ wr.cell? ⟨w.heap.size + 1 + 1, k - 16, none⟩ = some (U x) := ⟨_, rfl, by
            rw [← sched0_getD l k (k - 16) (by omega)]; exact hb2.cellU (by omega)⟩
          obtain ⟨x0, hx0, g0⟩ := g0
          obtain ⟨x1, hx1, g1⟩ := g1
          obtain ⟨x2, hx2, g2⟩ := g2
          obtain ⟨x3, hx3, g3⟩ := g3
          have HX : Hid (ss1 x0 + x1 + ss0 x2 + x3 = nextW (sched l k) k) := by rw [hx0, hx1, hx2, hx3]; rfl
          clear hx0 hx1 hx2 hx3
          have f2 := hb2.frozen k
          have c3 : wr.cell? ⟨w.heap.size + 1 + 1, k, none⟩ = some (U ((sched0 l k).getD k 0)) := hb2.cellU (by omega)
          generalize (sched0 l k).getD k 0 = x4 at c3
          go_wp2
          go_region_held3 (fun w' => w'.cell? ⟨w.heap.size + 1 + 1, k - 2, none⟩ = some (U x0) ∧ w'.cell? ⟨w.heap.size + 1 + 1, k - 7, none⟩ = some (U x1) ∧ w'.cell? ⟨w.heap.size + 1 + 1, k - 15, none⟩ = some (U x2) ∧ w'.cell? ⟨w.heap.size + 1 + 1, k - 16, none⟩ = some (U x3)) (first | exact ⟨g0, g1, g2, g3⟩ | exact ⟨keepCellAt g0 (by omega) _, keepCellAt g1 (by omega) _, keepCellAt g2 (by omega) _, keepCellAt g3 (by omega) _⟩) (first | (go_at_call 41; refine (smallSum1_any _ _).mono ?_; rintro e w' ⟨rfl, rfl⟩) | (go_at_call 42; refine (smallSum0_any _ _).mono ?_; rintro e w' ⟨rfl, rfl⟩))
          go_wp2
          go_roundw
          case rel =>
            refine ⟨k + 1, by omega, by omega, by go_num, ?_, ?_, ?_, by simpa using hsz, ?_⟩
            · exact (hb0.set_ne _ (by show _ ≠ _ + 1 + 1; omega) _).drew
            · exact (hb1.set_ne _ (by show _ + 1 ≠ _ + 1 + 1; omega) _).drew
            · have h3 := (hb2.set k (U (ss1 x0 + x1 + ss0 x2 + x3))).drew
              rw [set_mapU, sched0_set l k (by omega) (ss1 x0 + x1 + ss0 x2 + x3) (by rw [if_neg (by omega)]; exact HX.out)] at h3
              exact h3
            · exact (hbe.setCell (by show _ ≤ _ + 1 + 1; omega) _).drew
          case measure => simp [intOf]; omega
        · have hk64 : k = 64 := by omega
          rw [hk64, sched0_all] at hb2
          clear hk64
          have hr := hb2.range
          have ht := hb1.there 0 64 (by rw [zU_length]; omega)
          have hs64 : ((sched l 64).map U).length = 64 := by simp [sched_length]
          rw [← hs64] at ht
          have hi44 : (Tryd.prog.info? 44).map (·.size) = some ((sched l 64).map U).length := by rw [hs64]; exact size44
          have ho := mapU_one (sched l 64)
          have hb1' := Blk.setCells ((sched l 64).map U) 0 hb1 (by rw [hs64, zU_length]; omega)
          have hb3 := Below.setCells hbe (b := w.heap.size + 1) (by omega) 0 ((sched l 64).map U)
          rw [show over (zU 64) 0 ((sched l 64).map U) = (sched l 64).map U by simp [over, zU, sched_length]] at hb1'
          generalize hcs : (sched l 64).map U = cs at *
          have HC : Hid (∀ n, n = 64 → (sched l n).map U = cs) := by rintro n rfl; exact hcs
          clear hcs
          clear hs64 hb2 hb1 hb0 hk0 hl
          go_wp2_with (first
            | ((with_reducible refine wpL_load 44 (w.heap.size + 1 + 1) 0 cs _ ?_ hr Tryd.underlying44 ?_ hi44 ?_); (rfl); (rfl); (simp only [Act.put, List.setIfInBounds_toArray, List.set_cons_zero, List.set_cons_succ]))
            | ((with_reducible refine wpL_store 44 (w.heap.size + 1) 0 cs ?_ ?_ ht hi44 ho ?_); (rfl); (rfl); (simp only [Act.put])))
          exact bodyPost_ret (results_array Tryd.results34 rfl hb1' Tryd.underlying44 rfl hi44) rfl ⟨by rw [HC.out 64 rfl], hb3⟩
end Go.Proofs.YtpgckbjcacagdaaDoor
