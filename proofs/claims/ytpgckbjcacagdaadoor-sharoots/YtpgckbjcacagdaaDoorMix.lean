/- What mix answers: the eight words behind one more block. -/
import Derived.Test.YtpgckbjcacagdaaDoorExpand
import Derived.BigQuiet
import Derived.Deep.QuietTactic
namespace Go.Proofs.YtpgckbjcacagdaaDoor
open Go.RowKit
attribute [local go_sem] run_add_U run_xor_U run_and_U run_or_U run_not_U run_shr_U run_shl_U run_xor_B run_or_B run_eql_B convBU
attribute [local go_sem] match_U match_B run_cells_U run_cells_B run_store_U run_store_B
attribute [local go_sem ↓] storeAt_U storeAt_B alloc44 alloc37
attribute [local go_sem ↓] Go.wp_at_zero Go.wp_at_succ

/-- The table of the rounds' numbers stands in block 0. -/
def Tab (w : World) : Prop := ∀ i, i < 64 → w.cell? ⟨0, i, none⟩ = some (U (KW.getD i 0))
theorem Tab.pos {w : World} (h : Tab w) : 0 < w.heap.size := by
  have h0 := h 0 (by omega)
  rcases Nat.eq_zero_or_pos w.heap.size with e | e
  · simp [World.cell?, e] at h0
  · exact e
theorem Tab.below {w w' : World} (h : Tab w) {B : Nat} (hb : Below B w w') (hB : 0 < B) : Tab w' := fun i hi => by
  rw [hb.cell (p := ⟨0, i, none⟩) hB]; exact h i hi

set_option maxHeartbeats 1000000 in
theorem mix_any (s : St) (l : List Byte) (hl : l.length = 64) (w : World) (ht : Tab w) :
    Calls Tryd.prog 28 #[.agg (s.list.map U).toArray, .agg (l.map B8).toArray] w fun e w' => e = .returned (.agg ((compress KW s l).list.map U).toArray) ∧ Below w.heap.size w w' := by
  have hpos := ht.pos
  have HT : Hid (Tab w) := ht
  clear ht
  have hi38 : (Tryd.prog.info? 38).map (·.size) = some (l.map B8).length := by rw [List.length_map, hl]; exact size38
  have hr : ∀ o, (((w.alloc (.cells (s.list.map U).toArray 37)).alloc (.cells (l.map B8).toArray 38)).alloc o).rangeAt (w.heap.size + 1) 0 (l.map B8) := fun o =>
    ((Blk.new' _ (l.map B8) 38 _ (by simp)).alloc _).range
  go_enter Tryd.func28, Tryd.ntmps28
  go_wp2_with (first
    | ((with_reducible refine wpL_load 38 (w.heap.size + 1) 0 (l.map B8) _ ?_ (hr _) Tryd.underlying38 ?_ hi38 ?_); (rfl); (rfl); (simp only [Act.put, List.setIfInBounds_toArray, List.set_cons_zero, List.set_cons_succ])))
  refine (expand_any l hl _).mono ?_
  rintro e w1 ⟨rfl, hb⟩
  have hS64 : (sched l 64).length = 64 := sched_length l 64
  generalize hcs : sched l 64 = S at *
  have HC : Hid (∀ n, n = 64 → sched l n = S) := by rintro n rfl; exact hcs
  clear hcs
  have hi44 : (Tryd.prog.info? 44).map (·.size) = some (S.map U).length := by rw [List.length_map, hS64]; exact size44
  have hzl : (zU 64).length = (S.map U).length := by rw [List.length_map, hS64, zU_length]
  have h1 := mapU_one S
  go_wp2_with (first
    | ((with_reducible refine wpL_new 44 (zU 64) (S.map U) zv44 hzl ?_ ?_ hi44 h1 ?_); (rfl); (rfl); (simp only [Act.put, List.setIfInBounds_toArray, List.set_cons_zero, List.set_cons_succ])))
  have hsz : w.heap.size + 3 ≤ w1.heap.size := by have := hb.size; simp at this; omega
  have hb0 : Blk (w1.alloc (.cells (S.map U).toArray 44)) w.heap.size (s.list.map U) 37 :=
    (Blk.below (((Blk.new w (s.list.map U) 37).alloc _).alloc _) hb (by simp; omega)).alloc _
  have hb2 : Blk (w1.alloc (.cells (S.map U).toArray 44)) (w.heap.size + 1 + 1) (zU 8) 37 :=
    (Blk.below (Blk.new' _ (zU 8) 37 _ (by simp)) hb (by simp)).alloc _
  have hbS : Blk (w1.alloc (.cells (S.map U).toArray 44)) w1.heap.size (S.map U) 44 := Blk.new _ _ _
  have hbe : Below w.heap.size w (w1.alloc (.cells (S.map U).toArray 44)) :=
    (((((Below.refl _ _).alloc (Nat.le_refl _) _).alloc (by simp) _).alloc (by simp; omega) _).trans (hb.mono (by simp; omega))).alloc (by omega) _
  have HT' : Hid (Tab (w1.alloc (.cells (S.map U).toArray 44))) := HT.out.below hbe hpos
  clear hb hr hi38
  generalize w1.alloc (.cells (S.map U).toArray 44) = W at *
  generalize w1.heap.size = M at *
  clear w1
  have c0 : W.cell? ⟨w.heap.size, 0, none⟩ = some (U s.a) := hb0.cell 0
  have c1 : W.cell? ⟨w.heap.size, 1, none⟩ = some (U s.b) := hb0.cell 1
  have c2 : W.cell? ⟨w.heap.size, 2, none⟩ = some (U s.c) := hb0.cell 2
  have c3 : W.cell? ⟨w.heap.size, 3, none⟩ = some (U s.d) := hb0.cell 3
  have c4 : W.cell? ⟨w.heap.size, 4, none⟩ = some (U s.e) := hb0.cell 4
  have c5 : W.cell? ⟨w.heap.size, 5, none⟩ = some (U s.f) := hb0.cell 5
  have c6 : W.cell? ⟨w.heap.size, 6, none⟩ = some (U s.g) := hb0.cell 6
  have c7 : W.cell? ⟨w.heap.size, 7, none⟩ = some (U s.h) := hb0.cell 7
  go_quiet (fail)
  go_wp2
  go_quiet (fail)
  go_wp2
  go_loopw [6, 7, 8, 9, 10, 11, 12, 13, 35] (fun xa xb xc xd xe xf xg xh i wr => ∃ (k : Nat) (st : St) (n : Nat), k ≤ 64 ∧ i = .int .i64 k ∧ Hid (st = rounds KW S s k) ∧ wr = W.drewN n ∧ xa = U st.a ∧ xb = U st.b ∧ xc = U st.c ∧ xd = U st.d ∧ xe = U st.e ∧ xf = U st.f ∧ xg = U st.g ∧ xh = U st.h) (fun _ _ _ _ _ _ _ _ i _ => 64 - (intOf i).toNat)
  case atStart => exact ⟨0, s, _, by omega, rfl, rfl, drewN2 _ _ _, rfl, rfl, rfl, rfl, rfl, rfl, rfl, rfl⟩
  case round =>
    obtain ⟨k, st, n, hk, rfl, HS, rfl, rfl, rfl, rfl, rfl, rfl, rfl, rfl, rfl⟩ := hrel
    by_cases hlt : k < 64
    · have hlt' : (k : Int) < 64 := by omega
      have hi0 : (0 : Int) ≤ (k : Int) := by omega
      have gk : ∃ x, x = KW.getD k 0 ∧ W.cell? ⟨0, k, none⟩ = some (U x) := ⟨_, rfl, HT'.out k hlt⟩
      obtain ⟨xk, hxk, gk⟩ := gk
      have gs : ∃ x, x = S.getD k 0 ∧ W.cell? ⟨M, k, none⟩ = some (U x) := ⟨_, rfl, hbS.cellU (by omega)⟩
      obtain ⟨xs, hxs, gs⟩ := gs
      have HX : Hid (round xk xs st = rounds KW S s (k + 1)) := by
        rw [hxs, hxk, HS.out]; rfl
      clear HS hxs hxk
      go_wp2
      go_region_held3 (fun w' => w'.cell? ⟨0, k, none⟩ = some (U xk) ∧ w'.cell? ⟨M, k, none⟩ = some (U xs)) (exact ⟨gk, gs⟩) (first | (go_at_call 35; refine (bigSum1_any _ _).mono ?_; rintro e w' ⟨rfl, rfl⟩) | (go_at_call 36; refine (choose_any _ _ _ _).mono ?_; rintro e w' ⟨rfl, rfl⟩))
      go_wp2_with (first | (go_at_call 37; refine (bigSum0_any _ _).mono ?_; rintro e w' ⟨rfl, rfl⟩) | (go_at_call 38; refine (majority_any _ _ _ _).mono ?_; rintro e w' ⟨rfl, rfl⟩))
      go_roundw
      case rel => exact ⟨k + 1, round xk xs st, _, by omega, by go_num, HX, drewN1 _ _, rfl, rfl, rfl, rfl, rfl, rfl, rfl, rfl⟩
      case measure => simp [intOf]; omega
    · have hk64 : k = 64 := by omega
      have HF : Hid (∀ K, K = KW → compress K s l = s.add st) := by
        rintro K rfl
        unfold compress
        rw [HC.out 64 rfl, HS.out, hk64]
      clear hk64 HS
      have hex : ∃ R : List Value, R = [U (s.a + st.a), U (s.b + st.b), U (s.c + st.c), U (s.d + st.d), U (s.e + st.e), U (s.f + st.f), U (s.g + st.g), U (s.h + st.h)] := ⟨_, rfl⟩
      obtain ⟨R, hR⟩ := hex
      have hR' : R = (s.add st).list.map U := hR
      have hth : (W.drewN n).there (w.heap.size + 1 + 1) 0 R.length := by rw [hR']; exact Blk.there hb2 0 8 (by rw [zU_length]; omega)
      have hi37 : (Tryd.prog.info? 37).map (·.size) = some R.length := by rw [hR']; exact size37
      have hone : Hid (∀ v ∈ R, v.oneCell' = true) := by rw [hR']; exact mapU_one _
      have hbr := Blk.setCells R 0 (hb2.drewN n) (by rw [hR', zU_length]; exact Nat.le_refl _)
      rw [show over (zU 8) 0 R = R by rw [hR']; rfl] at hbr
      have hbl := Below.setCells (Below.drewN hbe n) (b := w.heap.size + 1 + 1) (by omega) 0 R
      have HR : Hid (∀ v, v = Value.agg (List.toArray [U (s.a + st.a), U (s.b + st.b), U (s.c + st.c), U (s.d + st.d), U (s.e + st.e), U (s.f + st.f), U (s.g + st.g), U (s.h + st.h)]) → v = .agg R.toArray) := by rintro v rfl; rw [hR]
      have HF' : Hid (∀ K, K = KW → (compress K s l).list.map U = R) := by rintro K rfl; rw [HF.out KW rfl, hR']
      clear hR hR' HF HC HT HT' hbS hb0 hb2 hbe
      go_wp2_with (first
        | ((with_reducible refine wpL_store 37 (w.heap.size + 1 + 1) 0 R ?_ ?_ hth hi37 hone.out ?_); (rfl); (exact HR.out _ rfl); (simp only [Act.put])))
      exact bodyPost_ret (results_array Tryd.results28 rfl hbr Tryd.underlying37 rfl hi37) rfl ⟨by rw [HF'.out KW rfl], hbl⟩
end Go.Proofs.YtpgckbjcacagdaaDoor
