/- What the reference's block answers: the eight words behind one more block. -/
import Derived.Test.YtpgckbjcacagdaaDoorRefBase
import Derived.Deep.RegionHeld3
import Derived.Deep.DrawnRows
import Derived.Deep.DeepCutAuto
import Derived.BigRegion
import Derived.BigQuiet
import Derived.Deep.QuietTactic
namespace Go.Proofs.YtpgckbjcacagdaaDoor
open Go.RowKit
attribute [local go_sem] run_add_U run_xor_U run_and_U run_or_U run_not_U run_shr_U run_shl_U convBU run_mul24 run_mul16 run_mul8 run_xorAll
attribute [local go_sem] match_U match_B run_cells_U run_cells_B run_store_U run_store_B
attribute [local go_sem ↓] storeAt_U storeAt_B
attribute [local go_sem ↓] Go.wp_at_zero Go.wp_at_succ
attribute [local go_sem ↓] zv44 zv37

/-- The words when the first k sums are made. -/
def sumTo (s st : St) (k : Nat) : List Word := (s.add st).list.take k ++ s.list.drop k
theorem sumTo_length (s st : St) (k : Nat) (hk : k ≤ 8) : (sumTo s st k).length = 8 := by
  have h1 : (s.add st).list.length = 8 := rfl
  have h2 : s.list.length = 8 := rfl
  simp [sumTo, h1, h2]; omega
theorem sumTo_getD (s st : St) (k : Nat) (hk : k < 8) : (sumTo s st k).getD k 0 = s.list.getD k 0 := by
  have h1 : (s.add st).list.length = 8 := rfl
  have h2 : s.list.length = 8 := rfl
  simp [sumTo, List.getElem?_append, h1, Nat.min_eq_left (by omega : k ≤ 8)]
theorem add_getD (s st : St) (k : Nat) (hk : k < 8) : s.list.getD k 0 + st.list.getD k 0 = (s.add st).list.getD k 0 := by
  match k, hk with
  | 0, _ => rfl
  | 1, _ => rfl
  | 2, _ => rfl
  | 3, _ => rfl
  | 4, _ => rfl
  | 5, _ => rfl
  | 6, _ => rfl
  | 7, _ => rfl
theorem sumTo_set (s st : St) (k : Nat) (hk : k < 8) : (sumTo s st k).set k (s.list.getD k 0 + st.list.getD k 0) = sumTo s st (k + 1) := by
  rw [add_getD s st k hk]
  have h1 : (s.add st).list.length = 8 := rfl
  have h2 : s.list.length = 8 := rfl
  unfold sumTo
  rw [List.set_append_right _ _ (by rw [List.length_take]; omega), List.length_take, h1, Nat.min_eq_left (by omega), Nat.sub_self]
  rw [List.drop_eq_getElem_cons (by omega : k < s.list.length), List.set_cons_zero, List.take_succ_eq_append_getElem (by omega : k < (s.add st).list.length), List.append_assoc]
  simp [h1, hk]
set_option maxRecDepth 100000 in
set_option maxHeartbeats 4000000 in
theorem block_any (s : St) (K : List Word) (hK : K.length = 64) (l : List Byte) (sb so cap : Nat) (w : World)
    (hcell : ∀ i, i < 64 → w.cell? ⟨sb, so + i, none⟩ = some (B8 (l.getD i 0))) :
    Calls Tryd.prog 25 #[.agg (s.list.map U).toArray, .agg (K.map U).toArray, .slice (some ⟨sb, so, none⟩) 64 cap] w fun e w' => e = .returned (.agg ((compress K s l).list.map U).toArray) ∧ Below w.heap.size w w' := by
  have hsb : sb < w.heap.size := lt_of_cell (hcell 0 (by omega))
  have HC : Hid (∀ wr, Below w.heap.size w wr → ∀ i, i < 64 → wr.cell? ⟨sb, so + i, none⟩ = some (B8 (l.getD i 0))) := fun wr hb i hi => by rw [hb.cell (p := ⟨sb, so + i, none⟩) hsb]; exact hcell i hi
  clear hcell
  go_enter Tryd.func25, Tryd.ntmps25
  go_wp2
  go_loopw [8] (fun i wr => ∃ k : Nat, k ≤ 64 ∧ i = .int .i64 k ∧ Blk wr w.heap.size (s.list.map U) 37 ∧ Blk wr (w.heap.size + 1) (K.map U) 44 ∧ Blk wr (w.heap.size + 1 + 1) (zU 8) 37 ∧ Blk wr (w.heap.size + 1 + 1 + 1) ((sched0 l k).map U) 44 ∧ Below w.heap.size w wr) (fun i _ => 64 - (intOf i).toNat)
  case atStart =>
    refine ⟨0, by omega, rfl, ?_, ?_, ?_, ?_, ?_⟩
    · exact (((Blk.new w _ _).alloc _).alloc _).alloc _
    · exact ((Blk.new' _ (K.map U) _ _ (by simp)).alloc _).alloc _
    · exact (Blk.new' _ (zU 8) _ _ (by simp)).alloc _
    · exact Blk.new' _ (zU 64) _ _ (by simp)
    · exact ((((Below.refl _ _).alloc (Nat.le_refl _) _).alloc (by simp) _).alloc (by simp; omega) _).alloc (by simp; omega) _
  case round =>
    obtain ⟨k, hk, rfl, hb0, hb1, hb2, hb3, hbe⟩ := hrel
    by_cases hlt : k < 64
    · have e0 : (0 : Int) ≤ (k : Int) := by omega
      have e1 : (k : Int) < 64 := by omega
      by_cases h16 : k < 16
      · have e2 : (k : Int) < 16 := by omega
        have w0 : IntKind.i64.wrap (4 * (k : Int)) = 4 * (k : Int) := by rw [IntKind.wrap_i64]; omega
        have w1 : IntKind.i64.wrap (4 * (k : Int) + 1) = 4 * (k : Int) + 1 := by rw [IntKind.wrap_i64]; omega
        have w2 : IntKind.i64.wrap (4 * (k : Int) + 2) = 4 * (k : Int) + 2 := by rw [IntKind.wrap_i64]; omega
        have w3 : IntKind.i64.wrap (4 * (k : Int) + 3) = 4 * (k : Int) + 3 := by rw [IntKind.wrap_i64]; omega
        have p0 : (0 : Int) ≤ 4 * (k : Int) := by omega
        have p1 : (0 : Int) ≤ 4 * (k : Int) + 1 := by omega
        have p2 : (0 : Int) ≤ 4 * (k : Int) + 2 := by omega
        have p3 : (0 : Int) ≤ 4 * (k : Int) + 3 := by omega
        have q0 : 4 * (k : Int) < 64 := by omega
        have q1 : 4 * (k : Int) + 1 < 64 := by omega
        have q2 : 4 * (k : Int) + 2 < 64 := by omega
        have q3 : 4 * (k : Int) + 3 < 64 := by omega
        have t0 : (4 * (k : Int)).toNat = 4 * k := by omega
        have t1 : (4 * (k : Int) + 1).toNat = 4 * k + 1 := by omega
        have t2 : (4 * (k : Int) + 2).toNat = 4 * k + 2 := by omega
        have t3 : (4 * (k : Int) + 3).toNat = 4 * k + 3 := by omega
        have g0 : ∃ x, x = l.getD (4 * k) 0 ∧ wr.cell? ⟨sb, so + 4 * k, none⟩ = some (B8 x) := ⟨_, rfl, HC.out wr hbe (4 * k) (by omega)⟩
        have g1 : ∃ x, x = l.getD (4 * k + 1) 0 ∧ wr.cell? ⟨sb, so + (4 * k + 1), none⟩ = some (B8 x) := ⟨_, rfl, HC.out wr hbe (4 * k + 1) (by omega)⟩
        have g2 : ∃ x, x = l.getD (4 * k + 2) 0 ∧ wr.cell? ⟨sb, so + (4 * k + 2), none⟩ = some (B8 x) := ⟨_, rfl, HC.out wr hbe (4 * k + 2) (by omega)⟩
        have g3 : ∃ x, x = l.getD (4 * k + 3) 0 ∧ wr.cell? ⟨sb, so + (4 * k + 3), none⟩ = some (B8 x) := ⟨_, rfl, HC.out wr hbe (4 * k + 3) (by omega)⟩
        obtain ⟨x0, hx0, g0⟩ := g0
        obtain ⟨x1, hx1, g1⟩ := g1
        obtain ⟨x2, hx2, g2⟩ := g2
        obtain ⟨x3, hx3, g3⟩ := g3
        have HX : Hid (x0.setWidth 32 * 16777216#32 + x1.setWidth 32 * 65536#32 + x2.setWidth 32 * 256#32 + x3.setWidth 32 = wordAt l k) := by
          show _ = _
          rw [word4_sum, hx0, hx1, hx2, hx3]; rfl
        clear hx0 hx1 hx2 hx3
        have f2 := hb3.frozen k
        have c3 : ∃ x, wr.cell? ⟨w.heap.size + 1 + 1 + 1, k, none⟩ = some (U x) := ⟨_, hb3.cellU (by rw [sched0_length _ _ (by omega)]; omega)⟩
        obtain ⟨x4, c3⟩ := c3
        have hne : sb ≠ w.heap.size + 1 + 1 + 1 := by omega
        go_wp2
        go_region_held3 (fun w' => w'.cell? ⟨sb, so + 4 * k, none⟩ = some (B8 x0) ∧ w'.cell? ⟨sb, so + (4 * k + 1), none⟩ = some (B8 x1) ∧ w'.cell? ⟨sb, so + (4 * k + 2), none⟩ = some (B8 x2) ∧ w'.cell? ⟨sb, so + (4 * k + 3), none⟩ = some (B8 x3)) (first | exact ⟨g0, g1, g2, g3⟩ | exact ⟨keepCell g0 hne _ _, keepCell g1 hne _ _, keepCell g2 hne _ _, keepCell g3 hne _ _⟩) (fail)
        go_wp2
        go_roundw
        case rel =>
          refine ⟨k + 1, by omega, by go_num, ?_, ?_, ?_, ?_, ?_⟩
          · exact (hb0.set_ne _ (by show _ ≠ _ + 1 + 1 + 1; omega) _).drew
          · exact (hb1.set_ne _ (by show _ + 1 ≠ _ + 1 + 1 + 1; omega) _).drew
          · exact (hb2.set_ne _ (by show _ + 1 + 1 ≠ _ + 1 + 1 + 1; omega) _).drew
          · have h3 := (hb3.set k (U (x0.setWidth 32 * 16777216#32 + x1.setWidth 32 * 65536#32 + x2.setWidth 32 * 256#32 + x3.setWidth 32))).drew
            rw [set_mapU, sched0_set l k (by omega) _ (by rw [if_pos h16]; exact HX.out)] at h3
            exact h3
          · exact (hbe.setCell (by show _ ≤ _ + 1 + 1 + 1; omega) _).drew
        case measure => simp [intOf]; omega
      · have e2 : ¬ (k : Int) < 16 := by omega
        have w0 : IntKind.i64.wrap ((k : Int) - 2) = (k : Int) - 2 := by rw [IntKind.wrap_i64]; omega
        have w1 : IntKind.i64.wrap ((k : Int) - 7) = (k : Int) - 7 := by rw [IntKind.wrap_i64]; omega
        have w2 : IntKind.i64.wrap ((k : Int) - 15) = (k : Int) - 15 := by rw [IntKind.wrap_i64]; omega
        have w3 : IntKind.i64.wrap ((k : Int) - 16) = (k : Int) - 16 := by rw [IntKind.wrap_i64]; omega
        have p0 : (2 : Int) ≤ (k : Int) := by omega
        have p1 : (7 : Int) ≤ (k : Int) := by omega
        have p2 : (15 : Int) ≤ (k : Int) := by omega
        have p3 : (16 : Int) ≤ (k : Int) := by omega
        have q0 : (k : Int) - 2 < 64 := by omega
        have q1 : (k : Int) - 7 < 64 := by omega
        have q2 : (k : Int) - 15 < 64 := by omega
        have q3 : (k : Int) - 16 < 64 := by omega
        have t0 : ((k : Int) - 2).toNat = k - 2 := by omega
        have t1 : ((k : Int) - 7).toNat = k - 7 := by omega
        have t2 : ((k : Int) - 15).toNat = k - 15 := by omega
        have t3 : ((k : Int) - 16).toNat = k - 16 := by omega
        have hle := sched0_length l k hk
        have g0 : ∃ x, x = (sched l k).getD (k - 2) 0 ∧ wr.cell? ⟨w.heap.size + 1 + 1 + 1, k - 2, none⟩ = some (U x) := ⟨_, rfl, by
          rw [← sched0_getD l k (k - 2) (by omega)]; exact hb3.cellU (by omega)⟩
        have g1 : ∃ x, x = (sched l k).getD (k - 7) 0 ∧ wr.cell? ⟨w.heap.size + 1 + 1 + 1, k - 7, none⟩ = some (U x) := ⟨_, rfl, by
          rw [← sched0_getD l k (k - 7) (by omega)]; exact hb3.cellU (by omega)⟩
        have g2 : ∃ x, x = (sched l k).getD (k - 15) 0 ∧ wr.cell? ⟨w.heap.size + 1 + 1 + 1, k - 15, none⟩ = some (U x) := ⟨_, rfl, by
          rw [← sched0_getD l k (k - 15) (by omega)]; exact hb3.cellU (by omega)⟩
        have g3 : ∃ x, x = (sched l k).getD (k - 16) 0 ∧ wr.cell? ⟨w.heap.size + 1 + 1 + 1, k - 16, none⟩ = some (U x) := ⟨_, rfl, by
          rw [← sched0_getD l k (k - 16) (by omega)]; exact hb3.cellU (by omega)⟩
        obtain ⟨x0, hx0, g0⟩ := g0
        obtain ⟨x1, hx1, g1⟩ := g1
        obtain ⟨x2, hx2, g2⟩ := g2
        obtain ⟨x3, hx3, g3⟩ := g3
        have HX : Hid (ss1 x0 + x1 + ss0 x2 + x3 = nextW (sched l k) k) := by rw [hx0, hx1, hx2, hx3]; rfl
        clear hx0 hx1 hx2 hx3
        have f2 := hb3.frozen k
        have c3 : ∃ x, wr.cell? ⟨w.heap.size + 1 + 1 + 1, k, none⟩ = some (U x) := ⟨_, hb3.cellU (by omega)⟩
        obtain ⟨x4, c3⟩ := c3
        go_wp2
        go_quiet (fail)
        go_wp2
        go_region_held3 (fun w' => w'.cell? ⟨w.heap.size + 1 + 1 + 1, k - 7, none⟩ = some (U x1) ∧ w'.cell? ⟨w.heap.size + 1 + 1 + 1, k - 16, none⟩ = some (U x3)) (first | exact ⟨g1, g3⟩ | exact ⟨keepCellAt g1 (by omega) _, keepCellAt g3 (by omega) _⟩)
          (first
            | (go_at_call_of 33 (Value.int IntKind.u64 17); refine (rotr_any _ _ 17 rfl (by decide) (by decide) _).mono ?_; rintro e w' ⟨rfl, rfl⟩)
            | (go_at_call_of 33 (Value.int IntKind.u64 19); refine (rotr_any _ _ 19 rfl (by decide) (by decide) _).mono ?_; rintro e w' ⟨rfl, rfl⟩)
            | (go_at_call_of 33 (Value.int IntKind.u64 7); refine (rotr_any _ _ 7 rfl (by decide) (by decide) _).mono ?_; rintro e w' ⟨rfl, rfl⟩)
            | (go_at_call_of 33 (Value.int IntKind.u64 18); refine (rotr_any _ _ 18 rfl (by decide) (by decide) _).mono ?_; rintro e w' ⟨rfl, rfl⟩))
        go_wp2
        go_roundw
        case rel =>
          refine ⟨k + 1, by omega, by go_num, ?_, ?_, ?_, ?_, ?_⟩
          · exact ((hb0.drewN _).set_ne _ (by show _ ≠ _ + 1 + 1 + 1; omega) _).drew
          · exact ((hb1.drewN _).set_ne _ (by show _ + 1 ≠ _ + 1 + 1 + 1; omega) _).drew
          · exact ((hb2.drewN _).set_ne _ (by show _ + 1 + 1 ≠ _ + 1 + 1 + 1; omega) _).drew
          · have h3 := ((hb3.drewN nq).set k (U (ss1 x0 + x1 + ss0 x2 + x3))).drew
            rw [set_mapU, sched0_set l k (by omega) (ss1 x0 + x1 + ss0 x2 + x3) (by rw [if_neg (by omega)]; exact HX.out)] at h3
            exact h3
          · exact ((Below.drewN hbe nq).setCell (p := ⟨w.heap.size + 1 + 1 + 1, k, none⟩) (by show _ ≤ _ + 1 + 1 + 1; omega) _).drew
        case measure => simp [intOf]; omega
    · have hk64 : k = 64 := by omega
      rw [hk64, sched0_all] at hb3
      clear hk64
      have hS64 : (sched l 64).length = 64 := sched_length l 64
      generalize hcs : sched l 64 = S at *
      have HS : Hid (∀ n, n = 64 → sched l n = S) := by rintro n rfl; exact hcs
      clear hcs HC
      have hi37 : (Tryd.prog.info? 37).map (·.size) = some (s.list.map U).length := size37
      have hr37 := hb0.range
      have hzl : (zU 8).length = (s.list.map U).length := by rw [zU_length]; rfl
      have hone : Hid (∀ v ∈ s.list.map U, v.oneCell' = true) := mapU_one _
      have hb0' := hb0.alloc (.cells (s.list.map U).toArray 37)
      have hb1' := hb1.alloc (.cells (s.list.map U).toArray 37)
      have hb2' := hb2.alloc (.cells (s.list.map U).toArray 37)
      have hb3' := hb3.alloc (.cells (s.list.map U).toArray 37)
      have hbV := Blk.new wr (s.list.map U) 37
      have hlt3 := hb3.lt
      have hbe' := hbe.alloc (by omega) (.cells (s.list.map U).toArray 37)
      have e1 : ¬ (k : Int) < 64 := by omega
      clear hb0 hb1 hb2 hb3 hbe hk hlt
      go_wp2_with (first
        | ((with_reducible refine wpL_load 37 w.heap.size 0 (s.list.map U) _ ?_ hr37 Tryd.underlying37 ?_ hi37 ?_); (rfl); (rfl); (simp only [Act.put, List.setIfInBounds_toArray, List.set_cons_zero, List.set_cons_succ]))
        | ((with_reducible refine wpL_new 37 (zU 8) (s.list.map U) zv37 hzl ?_ ?_ hi37 hone.out ?_); (rfl); (rfl); (simp only [Act.put, List.setIfInBounds_toArray, List.set_cons_zero, List.set_cons_succ])))
      clear hr37 hzl e1
      generalize wr.alloc (.cells (s.list.map U).toArray 37) = W at *
      generalize wr.heap.size = V at *
      clear hi37 hone
      go_loopw [12] (fun i wr => ∃ (k : Nat) (st : St), k ≤ 64 ∧ i = .int .i64 k ∧ Hid (∀ n, n = k → st = rounds K S s n) ∧ Blk wr w.heap.size (s.list.map U) 37 ∧ Blk wr (w.heap.size + 1) (K.map U) 44 ∧ Blk wr (w.heap.size + 1 + 1) (zU 8) 37 ∧ Blk wr (w.heap.size + 1 + 1 + 1) (S.map U) 44 ∧ Blk wr V (st.list.map U) 37 ∧ Below w.heap.size w wr) (fun i _ => 64 - (intOf i).toNat)
      case atStart => exact ⟨0, s, by omega, rfl, (by rintro n rfl; rfl), hb0', hb1', hb2', hb3', hbV, hbe'⟩
      case round =>
        clear hb0' hb1' hb2' hb3' hbV hbe'
        obtain ⟨k, st, hk, rfl, HST, hb0, hb1, hb2, hb3, hbV, hbe⟩ := hrel
        by_cases hlt : k < 64
        · have e0 : (0 : Int) ≤ (k : Int) := by omega
          have e1 : (k : Int) < 64 := by omega
          have c0 : wr.cell? ⟨V, 0, none⟩ = some (U st.a) := hbV.cell 0
          have c1 : wr.cell? ⟨V, 1, none⟩ = some (U st.b) := hbV.cell 1
          have c2 : wr.cell? ⟨V, 2, none⟩ = some (U st.c) := hbV.cell 2
          have c3 : wr.cell? ⟨V, 3, none⟩ = some (U st.d) := hbV.cell 3
          have c4 : wr.cell? ⟨V, 4, none⟩ = some (U st.e) := hbV.cell 4
          have c5 : wr.cell? ⟨V, 5, none⟩ = some (U st.f) := hbV.cell 5
          have c6 : wr.cell? ⟨V, 6, none⟩ = some (U st.g) := hbV.cell 6
          have c7 : wr.cell? ⟨V, 7, none⟩ = some (U st.h) := hbV.cell 7
          obtain ⟨xk, hxk, gk⟩ : ∃ x, x = K.getD k 0 ∧ wr.cell? ⟨w.heap.size + 1, k, none⟩ = some (U x) := ⟨_, rfl, hb1.cellU (by omega)⟩
          obtain ⟨xs, hxs, gs⟩ : ∃ x, x = S.getD k 0 ∧ wr.cell? ⟨w.heap.size + 1 + 1 + 1, k, none⟩ = some (U x) := ⟨_, rfl, hb3.cellU (by omega)⟩
          have HX : Hid (∀ n, n = k + 1 → round xk xs st = rounds K S s n) := by
            rintro n rfl
            rw [hxs, hxk, HST.out k rfl]; rfl
          obtain ⟨R, hR⟩ : ∃ R : List Value, R = [U (tOne xk xs st + bs0 st.a + maj st.a st.b st.c), U st.a, U st.b, U st.c, U (st.d + tOne xk xs st), U st.e, U st.f, U st.g] := ⟨_, rfl⟩
          have hR' : R = (round xk xs st).list.map U := by
            rw [hR, show (round xk xs st).list.map U = [U (tOne xk xs st + (bs0 st.a + maj st.a st.b st.c)), U st.a, U st.b, U st.c, U (st.d + tOne xk xs st), U st.e, U st.f, U st.g] from rfl, BitVec.add_assoc]
          have hth : wr.there V 0 R.length := by rw [hR']; exact hbV.there 0 8 (by exact Nat.le_refl _)
          have hi37 : (Tryd.prog.info? 37).map (·.size) = some R.length := by rw [hR']; exact size37
          have hone : Hid (∀ v ∈ R, v.oneCell' = true) := by rw [hR']; exact mapU_one _
          have HR : Hid (∀ v, v = Value.agg (List.toArray [U (tOne xk xs st + bs0 st.a + maj st.a st.b st.c), U st.a, U st.b, U st.c, U (st.d + tOne xk xs st), U st.e, U st.f, U st.g]) → v = .agg R.toArray) := by rintro v rfl; rw [hR]
          have HR' : Hid (R = (round xk xs st).list.map U) := hR'
          clear hR hR' HST hxk hxs
          go_wp2
          go_region_held3 (fun w' => w'.cell? ⟨V, 4, none⟩ = some (U st.e)) (exact c4)
            (first
              | (go_at_call_of 33 (Value.int IntKind.u64 6); refine (rotr_any _ _ 6 rfl (by decide) (by decide) _).mono ?_; rintro e w' ⟨rfl, rfl⟩)
              | (go_at_call_of 33 (Value.int IntKind.u64 11); refine (rotr_any _ _ 11 rfl (by decide) (by decide) _).mono ?_; rintro e w' ⟨rfl, rfl⟩)
              | (go_at_call_of 33 (Value.int IntKind.u64 25); refine (rotr_any _ _ 25 rfl (by decide) (by decide) _).mono ?_; rintro e w' ⟨rfl, rfl⟩))
          go_wp2
          go_quiet (fail)
          go_wp2
          go_region_held3 (fun w' => w'.cell? ⟨V, 0, none⟩ = some (U st.a)) (exact c0)
            (first
              | (go_at_call_of 33 (Value.int IntKind.u64 2); refine (rotr_any _ _ 2 rfl (by decide) (by decide) _).mono ?_; rintro e w' ⟨rfl, rfl⟩)
              | (go_at_call_of 33 (Value.int IntKind.u64 13); refine (rotr_any _ _ 13 rfl (by decide) (by decide) _).mono ?_; rintro e w' ⟨rfl, rfl⟩)
              | (go_at_call_of 33 (Value.int IntKind.u64 22); refine (rotr_any _ _ 22 rfl (by decide) (by decide) _).mono ?_; rintro e w' ⟨rfl, rfl⟩))
          go_wp2_with (first
            | ((with_reducible refine wpL_store 37 V 0 R ?_ ?_ ?_ hi37 hone.out ?_); (rfl); (exact HR.out _ rfl); (exact hth); (simp only [Act.put])))
          go_roundw
          case rel =>
            have hbR := Blk.setCells R 0 (hbV.drewN (1 + nq + 1)) (by rw [HR'.out]; exact Nat.le_refl _)
            rw [show over (st.list.map U) 0 R = R by rw [HR'.out]; rfl] at hbR
            refine ⟨k + 1, round xk xs st, by omega, by go_num, HX, (hb0.drewN _).setCells_ne V (by omega) 0 R, (hb1.drewN _).setCells_ne V (by omega) 0 R, (hb2.drewN _).setCells_ne V (by omega) 0 R, (hb3.drewN _).setCells_ne V (by omega) 0 R, ?_, Below.setCells (Below.drewN hbe _) (by omega) 0 R⟩
            rw [← HR'.out]; exact hbR
          case measure => simp [intOf]; omega
        · have HF : Hid (∀ Q, Q = K → compress Q s l = s.add st) := by
            rintro Q rfl
            unfold compress
            rw [HS.out 64 rfl, HST.out 64 (by omega)]
          have e1 : ¬ (k : Int) < 64 := by omega
          clear hlt hk HST HS
          go_wp2
          clear e1
          go_loopw [18] (fun i wr => ∃ k : Nat, k ≤ 8 ∧ i = .int .i64 k ∧ Blk wr w.heap.size ((sumTo s st k).map U) 37 ∧ Blk wr (w.heap.size + 1 + 1) (zU 8) 37 ∧ Blk wr V (st.list.map U) 37 ∧ Below w.heap.size w wr) (fun i _ => 8 - (intOf i).toNat)
          case atStart => exact ⟨0, by omega, rfl, hb0, hb2, hbV, hbe⟩
          case round =>
            clear hb0 hb1 hb2 hb3 hbV hbe
            obtain ⟨k, hk, rfl, hb0, hb2, hbV, hbe⟩ := hrel
            by_cases hlt : k < 8
            · have e0 : (0 : Int) ≤ (k : Int) := by omega
              have e1 : (k : Int) < 8 := by omega
              have hl8 := sumTo_length s st k hk
              obtain ⟨x, hx, c0⟩ : ∃ x, x = s.list.getD k 0 ∧ wr.cell? ⟨w.heap.size, k, none⟩ = some (U x) := ⟨_, rfl, by rw [← sumTo_getD s st k hlt]; exact hb0.cellU (by omega)⟩
              obtain ⟨y, hy, c1⟩ : ∃ y, y = st.list.getD k 0 ∧ wr.cell? ⟨V, k, none⟩ = some (U y) := ⟨_, rfl, hbV.cellU (by exact hlt)⟩
              have f0 := hb0.frozen k
              have HX : Hid (∀ n, n = k + 1 → (sumTo s st k).set k (x + y) = sumTo s st n) := by
                rintro n rfl
                rw [hx, hy]; exact sumTo_set s st k hlt
              clear hx hy hl8
              go_wp2
              go_region
              all_goals go_wp2
              all_goals go_roundw
              case rel =>
                refine ⟨k + 1, by omega, by go_num, ?_, ?_, ?_, ?_⟩
                · have h3 := (hb0.set k (U (x + y))).drew
                  rw [set_mapU, HX.out _ rfl] at h3
                  exact h3
                · exact (hb2.set_ne _ (by show _ + 1 + 1 ≠ w.heap.size; omega) _).drew
                · exact (hbV.set_ne _ (by show V ≠ w.heap.size; omega) _).drew
                · exact (hbe.setCell (by show _ ≤ w.heap.size; omega) _).drew
              case measure => simp [intOf]; omega
            · have hk8 : k = 8 := by omega
              have hall : sumTo s st 8 = (s.add st).list := by
                have h1 : (s.add st).list.length = 8 := rfl
                have h2 : s.list.length = 8 := rfl
                simp [sumTo, List.take_of_length_le (Nat.le_of_eq h1), List.drop_eq_nil_of_le (Nat.le_of_eq h2)]
              rw [hk8, hall] at hb0
              have e1 : ¬ (k : Int) < 8 := by omega
              clear hk8 hall hlt hk
              obtain ⟨R, hR⟩ : ∃ R : List Value, R = (s.add st).list.map U := ⟨_, rfl⟩
              rw [← hR] at hb0
              have hRl : R.length = 8 := by rw [hR]; rfl
              have hr := hb0.range
              have hth : wr.there (w.heap.size + 1 + 1) 0 R.length := hb2.there 0 _ (by rw [hRl, zU_length]; omega)
              have hi37 : (Tryd.prog.info? 37).map (·.size) = some R.length := by rw [hRl]; exact size37
              have hone : Hid (∀ v ∈ R, v.oneCell' = true) := by rw [hR]; exact mapU_one _
              have hbr := Blk.setCells R 0 hb2 (by rw [hRl, zU_length]; omega)
              rw [show over (zU 8) 0 R = R by simp [over, zU, hRl]] at hbr
              have hbl := Below.setCells hbe (b := w.heap.size + 1 + 1) (by omega) 0 R
              have HF' : Hid (∀ Q, Q = K → (compress Q s l).list.map U = R) := by rintro Q rfl; rw [HF.out Q rfl, hR]
              clear hR HF
              go_wp2_with (first
                | ((with_reducible refine wpL_load 37 w.heap.size 0 R _ ?_ hr Tryd.underlying37 ?_ hi37 ?_); (rfl); (rfl); (simp only [Act.put, List.setIfInBounds_toArray, List.set_cons_zero, List.set_cons_succ]))
                | ((with_reducible refine wpL_store 37 (w.heap.size + 1 + 1) 0 R ?_ ?_ hth hi37 hone.out ?_); (rfl); (rfl); (simp only [Act.put])))
              exact bodyPost_ret (results_array Tryd.results25 rfl hbr Tryd.underlying37 rfl hi37) rfl ⟨by rw [HF'.out K rfl], hbl⟩
end Go.Proofs.YtpgckbjcacagdaaDoor
