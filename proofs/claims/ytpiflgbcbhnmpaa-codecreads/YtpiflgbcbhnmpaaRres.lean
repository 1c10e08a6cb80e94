/- What the reader's result answers, and replay. -/
import Derived.Test.YtpiflgbcbhnmpaaLbk
namespace Go.Proofs.Ytpiflgbcbhnmpaa
open Go.RowKit
/-- The cells of a result. -/
def rsC (m : Nat) (t n : Int) (a b : List Value) : List Value := .int .u64 (m : Int) :: .int .i64 t :: .int .i64 n :: (a ++ b)
def z41 : List Value := rsC 0 0 0 (zB 32) (zB 32)
theorem zv41 (w : World) : (zeroValue 41).run Try.prog w = .ok (.agg z41.toArray) w := by
  have e : z41.toArray = Try.zeroCells41 := by unfold z41 rsC; rw [zB_eq]; rfl
  rw [e]; exact Try.zeroValue41 w
theorem size41 : (Try.prog.info? 41).map (·.size) = some 67 := by kernel_rfl
attribute [local go_sem ↓] zv41
theorem rsC_length (m : Nat) (t n : Int) (a b : List Value) (ha : a.length = 32) (hb : b.length = 32) : (rsC m t n a b).length = 67 := by simp [rsC, ha, hb]
theorem rsC_over3 (m : Nat) (t n : Int) (a b : List Value) (ha : a.length = 32) (x : List Value) (hx : x.length = 32) : over (rsC m t n a b) 3 x = rsC m t n x b := by
  unfold over rsC
  simp [ha, hx]
theorem rsC_over35 (m : Nat) (t n : Int) (a b : List Value) (ha : a.length = 32) (hb : b.length = 32) (x : List Value) (hx : x.length = 32) : over (rsC m t n a b) 35 x = rsC m t n a x := by
  unfold over rsC
  simp [ha, hb, hx, List.drop_append]
/-- A result. -/
structure Rs where
  m : Nat
  tn : Int
  wn : Int
  la : List Nat
  tg : List Nat
def Rs.cells (r : Rs) : List Value := rsC r.m r.tn r.wn (r.la.map By) (r.tg.map By)
def pRes (s : S2) : Rs × S2 :=
  let m := pN 9223372036854775807 s
  let t := pN 60 m.2
  let n := pN 4 t.2
  let a := pD n.2
  let b := pD a.2
  (⟨m.1, t.1, (n.1 : Int) - 1, a.1, b.1⟩, b.2)
set_option maxRecDepth 100000 in
set_option maxHeartbeats 8000000 in
theorem result74 (rb : Nat) (s : S2) (w : World) (h : RdAt w rb s.1 s.2) (hf : Fit s) :
    Calls Try.prog 74 #[.pointer (some ⟨rb, 0, none⟩)] w fun e w' => RdOk w rb (.agg (pRes s).1.cells.toArray) (pRes s).2 e w' := by
  have hS := hid (show St w ((w.alloc (.cells z41.toArray 41)).alloc (.cells z41.toArray 41)) rb w.heap.size 41 z41 z41 s from
    ⟨(Blk.new _ _ _).alloc _, Blk.new' _ _ _ _ (by simp), h.below (((Below.refl _ _).alloc (Nat.le_refl _) _).alloc (by simp) _), ((Only.refl rb w).alloc _).alloc _, Nat.le_refl _, h.lt⟩)
  clear h
  unfold pRes
  obtain ⟨m, s1, hm⟩ : ∃ a b, pN 9223372036854775807 s = (a, b) := ⟨_, _, rfl⟩
  obtain ⟨t, s2, ht⟩ : ∃ a b, pN 60 s1 = (a, b) := ⟨_, _, rfl⟩
  obtain ⟨n, s3, hn⟩ : ∃ a b, pN 4 s2 = (a, b) := ⟨_, _, rfl⟩
  obtain ⟨pa, s4, hpa⟩ : ∃ a b, pD s3 = (a, b) := ⟨_, _, rfl⟩
  obtain ⟨pb, s5, hpb⟩ : ∃ a b, pD s4 = (a, b) := ⟨_, _, rfl⟩
  have F1 : Fit s1 := by have := hf.num 9223372036854775807; rw [hm] at this; exact this
  have F2 : Fit s2 := by have := F1.num 60; rw [ht] at this; exact this
  have F3 : Fit s3 := by have := F2.num 4; rw [hn] at this; exact this
  have F4 : Fit s4 := by have := F3.dig; rw [hpa] at this; exact this
  have la : (pa.map By).length = 32 := by have := pD_32 s3; rw [hpa] at this; rw [List.length_map]; exact this
  have lb : (pb.map By).length = 32 := by have := pD_32 s4; rw [hpb] at this; rw [List.length_map]; exact this
  have hn4 : n ≤ 4 := by have := pNum_le (most := 4) (bs := s2.1) (bad := s2.2); rw [show pNum 4 s2.1 s2.2 = pN 4 s2 from rfl, hn] at this; exact this
  have lz := zB_length 32
  have wn : IntKind.i64.wrap ((n : Int) - 1) = (n : Int) - 1 := by rw [IntKind.wrap_i64]; omega
  have K1 : Hid (∀ l W, St w W rb w.heap.size 41 z41 l s → Calls Try.prog 91 #[.pointer (some ⟨rb, 0, none⟩), .int .u64 9223372036854775807] W fun e w' => e = .returned (.int .u64 (m : Int)) ∧ St w w' rb w.heap.size 41 z41 l s1 ∧ Only rb W w') := fun l W h => by have h9 := number_st h hf 9223372036854775807; rw [hm] at h9; exact h9
  have K2 : Hid (∀ l W, St w W rb w.heap.size 41 z41 l s1 → Calls Try.prog 92 #[.pointer (some ⟨rb, 0, none⟩), .int .i64 60] W fun e w' => e = .returned (.int .i64 (t : Int)) ∧ St w w' rb w.heap.size 41 z41 l s2 ∧ Only rb W w') := fun l W h => by have h9 := upTo_st h F1 60 (by omega); rw [ht] at h9; exact h9
  have K3 : Hid (∀ l W, St w W rb w.heap.size 41 z41 l s2 → Calls Try.prog 92 #[.pointer (some ⟨rb, 0, none⟩), .int .i64 4] W fun e w' => e = .returned (.int .i64 (n : Int)) ∧ St w w' rb w.heap.size 41 z41 l s3 ∧ Only rb W w') := fun l W h => by have h9 := upTo_st h F2 4 (by omega); rw [hn] at h9; exact h9
  have K4 : Hid (∀ l W, St w W rb w.heap.size 41 z41 l s3 → Calls Try.prog 95 #[.pointer (some ⟨rb, 0, none⟩)] W fun e w' => e = .returned (.agg (pa.map By).toArray) ∧ St w w' rb w.heap.size 41 z41 l s4 ∧ Only rb W w') := fun l W h => by have h9 := digest_st h F3; rw [hpa] at h9; exact h9
  have K5 : Hid (∀ l W, St w W rb w.heap.size 41 z41 l s4 → Calls Try.prog 95 #[.pointer (some ⟨rb, 0, none⟩)] W fun e w' => e = .returned (.agg (pb.map By).toArray) ∧ St w w' rb w.heap.size 41 z41 l s5 ∧ Only rb W w') := fun l W h => by have h9 := digest_st h F4; rw [hpb] at h9; exact h9
  simp only [hm, ht, hn, hpa, hpb]
  clear hm ht hn hpa hpb F1 F2 F3 F4 hf
  show Calls _ _ _ _ fun e w' => RdOk w rb (.agg (rsC m t ((n : Int) - 1) (pa.map By) (pb.map By)).toArray) s5 e w'
  go_enter Try.func74, Try.ntmps74
  go_wp2_with fail
  refine Calls.mono (K1.out _ _ hS.out) ?_
  rintro e w1 ⟨rfl, T1, O1⟩
  have c1 : w1.cell? ⟨w.heap.size + 1, 0, none⟩ = some (.int .u64 0) := T1.own.cell 0
  have f1 := T1.own.frozen 0
  have S1 : Hid (St w (w1.setCell ⟨w.heap.size + 1, 0, none⟩ (.int .u64 (m : Int))) rb w.heap.size 41 z41 (rsC m 0 0 (zB 32) (zB 32)) s1) := T1.set 0 _
  clear T1 O1 hS K1
  go_wp2_with fail
  refine Calls.mono (K2.out _ _ S1.out) ?_
  rintro e w2 ⟨rfl, T2, O2⟩
  have c2 : w2.cell? ⟨w.heap.size + 1, 1, none⟩ = some (.int .i64 0) := T2.own.cell 1
  have f2 := T2.own.frozen 1
  have S2 : Hid (St w (w2.setCell ⟨w.heap.size + 1, 1, none⟩ (.int .i64 (t : Int))) rb w.heap.size 41 z41 (rsC m t 0 (zB 32) (zB 32)) s2) := T2.set 1 _
  clear T2 O2 S1 K2 c1 f1
  go_wp2_with fail
  refine Calls.mono (K3.out _ _ S2.out) ?_
  rintro e w3 ⟨rfl, T3, O3⟩
  have c3 : w3.cell? ⟨w.heap.size + 1, 2, none⟩ = some (.int .i64 0) := T3.own.cell 2
  have f3 := T3.own.frozen 2
  have S3 : Hid (St w (w3.setCell ⟨w.heap.size + 1, 2, none⟩ (.int .i64 ((n : Int) - 1))) rb w.heap.size 41 z41 (rsC m t ((n : Int) - 1) (zB 32) (zB 32)) s3) := T3.set 2 _
  clear T3 O3 S2 K3 c2 f2
  go_wp2_with fail
  refine Calls.mono (K4.out _ _ S3.out) ?_
  rintro e w4 ⟨rfl, T4, O4⟩
  have hi36_4 : (Try.prog.info? 36).map (·.size) = some (pa.map By).length := by rw [la]; exact size36
  have hth4 := T4.own.there 3 (pa.map By).length (by rw [la, rsC_length _ _ _ _ _ lz lz]; omega)
  have hone4 := hid (mapBy_one pa)
  have S4 : Hid (St w (w4.setCells (w.heap.size + 1) 3 (pa.map By)) rb w.heap.size 41 z41 (rsC m t ((n : Int) - 1) (pa.map By) (zB 32)) s4) := by
    have h9 := T4.sets 3 (pa.map By) (by rw [la, rsC_length _ _ _ _ _ lz lz]; omega)
    rw [rsC_over3 _ _ _ _ _ lz _ la] at h9
    exact h9
  clear T4 O4 S3 K4 c3 f3
  go_upto_region 6 with (first
    | ((with_reducible refine wpL_store 36 (w.heap.size + 1) 3 (pa.map By) ?_ ?_ hth4 hi36_4 hone4.out ?_); (rfl); (rfl); (simp only [Act.put])))
  clear hth4 hi36_4 hone4
  generalize w4.setCells (w.heap.size + 1) 3 (pa.map By) = V4 at *
  go_wp2_with fail
  refine Calls.mono (K5.out _ _ S4.out) ?_
  rintro e w5 ⟨rfl, T5, O5⟩
  have hi36_5 : (Try.prog.info? 36).map (·.size) = some (pb.map By).length := by rw [lb]; exact size36
  have hth5 := T5.own.there 35 (pb.map By).length (by rw [lb, rsC_length _ _ _ _ _ la lz]; omega)
  have hone5 := hid (mapBy_one pb)
  have S5 : Hid (St w (w5.setCells (w.heap.size + 1) 35 (pb.map By)) rb w.heap.size 41 z41 (rsC m t ((n : Int) - 1) (pa.map By) (pb.map By)) s5) := by
    have h9 := T5.sets 35 (pb.map By) (by rw [lb, rsC_length _ _ _ _ _ la lz]; omega)
    rw [rsC_over35 _ _ _ _ _ la lz _ lb] at h9
    exact h9
  clear T5 O5 S4 K5
  go_upto_region 7 with (first
    | ((with_reducible refine wpL_store 36 (w.heap.size + 1) 35 (pb.map By) ?_ ?_ hth5 hi36_5 hone5.out ?_); (rfl); (rfl); (simp only [Act.put])))
  clear hth5 hi36_5 hone5
  generalize w5.setCells (w.heap.size + 1) 35 (pb.map By) = V5 at *
  obtain ⟨E, hE⟩ : ∃ E, E = rsC m t ((n : Int) - 1) (pa.map By) (pb.map By) := ⟨_, rfl⟩
  have hEl : E.length = 67 := by rw [hE]; exact rsC_length _ _ _ _ _ la lb
  have hi41 : (Try.prog.info? 41).map (·.size) = some E.length := by rw [hEl]; exact size41
  have honeE : Hid (∀ v ∈ E, v.oneCell' = true) := by
    rw [hE]; intro v hv
    simp only [rsC, List.mem_cons, List.mem_append] at hv
    rcases hv with rfl | rfl | rfl | hv | hv
    · rfl
    · rfl
    · rfl
    · exact mapBy_one _ v hv
    · exact mapBy_one _ v hv
  rw [← hE] at S5
  have hz : z41.length = E.length := by rw [hEl]; exact rsC_length _ _ _ _ _ lz lz
  obtain ⟨g3, g4, g5⟩ := S5.out.fin hz
  have g1 := S5.out.own.range
  have g2 := S5.out.res.there 0 E.length (by omega)
  have HE := hid hE
  clear S5 hE
  go_wp2_with (first
    | ((with_reducible refine wpL_load 41 (w.heap.size + 1) 0 E _ ?_ g1 Try.underlying41 ?_ hi41 ?_); (rfl); (rfl); (simp only [Act.put, List.setIfInBounds_toArray, List.set_cons_zero, List.set_cons_succ]))
    | ((with_reducible refine wpL_store 41 w.heap.size 0 E ?_ ?_ g2 hi41 honeE.out ?_); (rfl); (rfl); (simp only [Act.put])))
  exact bodyPost_ret (results_array Try.results74 rfl g3 Try.underlying41 rfl hi41) rfl ⟨by rw [HE.out], g4, g5⟩
def pRep (s : S2) : List Bk × S2 := pList 60 pBlk s
theorem replay78 (rb : Nat) (s : S2) (w : World) (h : RdAt w rb s.1 s.2) (hf : Fit s) :
    Calls Try.prog 78 #[.pointer (some ⟨rb, 0, none⟩)] w fun e w' => LbkOk w rb (pRep s).1 (pRep s).2 e w' := by
  have hc := hid (list99 rb 60 (by omega) s w h hf)
  clear h hf
  show Calls _ _ _ _ fun e w' => LbkOk w rb (pList 60 pBlk s).1 (pList 60 pBlk s).2 e w'
  generalize pList 60 pBlk s = r at *
  go_enter Try.func78, Try.ntmps78
  go_wp2_with fail
  refine Calls.mono hc.out ?_
  rintro e w1 ⟨p, N, cap, hN, rfl, hOw, hR, hO⟩
  have HN := hid hN
  clear hN
  go_wp2
  go_ret
  exact ⟨p, N, cap, HN.out, rfl, hOw, hR, hO⟩
end Go.Proofs.Ytpiflgbcbhnmpaa
