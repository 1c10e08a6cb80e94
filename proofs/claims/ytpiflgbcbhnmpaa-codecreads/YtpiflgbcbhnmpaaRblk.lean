/- What the reader's block answers. -/
import Derived.Test.YtpiflgbcbhnmpaaBlk
namespace Go.Proofs.Ytpiflgbcbhnmpaa
open Go.RowKit
attribute [local go_sem ↓] zv39
theorem pMany_mem {α : Type} (f : S2 → α × S2) : ∀ (n : Nat) (s : S2), ∀ d ∈ (pMany f n s).1, ∃ s', d = (f s').1
  | 0, s, d, h => by simp [pMany] at h
  | n + 1, s, d, h => by
    simp only [pMany, List.mem_cons] at h
    rcases h with rfl | h
    · exact ⟨s, rfl⟩
    · exact pMany_mem f n _ d h
theorem pSeal_m (s : S2) : (pSeal s).1.m < 18446744073709551616 ∧ (pSeal s).1.cs.length < 1000000000 := by
  unfold pSeal pSeal0
  obtain ⟨m, s1, hm⟩ : ∃ a b, pN 9223372036854775807 s = (a, b) := ⟨_, _, rfl⟩
  have hml : m ≤ 9223372036854775807 := by have := pNum_le (most := 9223372036854775807) (bs := s.1) (bad := s.2); rw [show pNum 9223372036854775807 s.1 s.2 = pN 9223372036854775807 s from rfl, hm] at this; exact this
  simp only [hm]
  refine ⟨by omega, ?_⟩
  generalize (pN 1 (pN 59 (pN 3 s1).2).2).2 = s4
  have h1 : (pList 5 pCmd s4).1.length = (pN 5 s4).1 := pMany_length pCmd (pN 5 s4).1 (pN 5 s4).2
  have h2 : (pN 5 s4).1 ≤ 5 := pNum_le
  omega
theorem pSeal_sds (n : Nat) (s : S2) : SdsFit (pMany pSeal n s).1 := fun d hd => by
  obtain ⟨s', rfl⟩ := pMany_mem pSeal n s d hd
  exact ⟨(pSeal_m s').1, pSeal_tag s', (pSeal_m s').2⟩
/-- A block is read. -/
def pBlk0 (s : S2) : Bk × S2 :=
  let t := pN 59 s
  let a := pD t.2
  let b := pD a.2
  let c := pD b.2
  let l := pList 4 pSeal c.2
  (⟨t.1, a.1, b.1, c.1, l.1⟩, l.2)
def pBlk (s : S2) : Bk × S2 := ((pBlk0 s).1, if (pBlk0 s).1.ok then (pBlk0 s).2 else ([], true))
theorem pD_32 (s : S2) : (pD s).1.length = 32 := pDig_32
theorem pBlk_fit {s : S2} (hf : Fit s) : Fit (pBlk s).2 := by
  unfold pBlk pBlk0
  obtain ⟨t, s1, ht⟩ : ∃ a b, pN 59 s = (a, b) := ⟨_, _, rfl⟩
  obtain ⟨pa, s2, hpa⟩ : ∃ a b, pD s1 = (a, b) := ⟨_, _, rfl⟩
  obtain ⟨pb, s3, hpb⟩ : ∃ a b, pD s2 = (a, b) := ⟨_, _, rfl⟩
  obtain ⟨pc, s4, hpc⟩ : ∃ a b, pD s3 = (a, b) := ⟨_, _, rfl⟩
  obtain ⟨ds, s5, hds⟩ : ∃ a b, pList 4 pSeal s4 = (a, b) := ⟨_, _, rfl⟩
  have F1 : Fit s1 := by have := hf.num 59; rw [ht] at this; exact this
  have F2 : Fit s2 := by have := F1.dig; rw [hpa] at this; exact this
  have F3 : Fit s3 := by have := F2.dig; rw [hpb] at this; exact this
  have F4 : Fit s4 := by have := F3.dig; rw [hpc] at this; exact this
  have F5 : Fit s5 := by have := pList_fit (fun _ h => pSeal_fit h) 4 s4 F4; rw [hds] at this; exact this
  simp only [ht, hpa, hpb, hpc, hds]
  split
  · exact F5
  · exact ⟨Byt.nil, by simp⟩
theorem pBlk_bk (s : S2) : BkFit (pBlk s).1 := by
  unfold pBlk pBlk0
  obtain ⟨t, s1, ht⟩ : ∃ a b, pN 59 s = (a, b) := ⟨_, _, rfl⟩
  obtain ⟨pa, s2, hpa⟩ : ∃ a b, pD s1 = (a, b) := ⟨_, _, rfl⟩
  obtain ⟨pb, s3, hpb⟩ : ∃ a b, pD s2 = (a, b) := ⟨_, _, rfl⟩
  obtain ⟨pc, s4, hpc⟩ : ∃ a b, pD s3 = (a, b) := ⟨_, _, rfl⟩
  obtain ⟨ds, s5, hds⟩ : ∃ a b, pList 4 pSeal s4 = (a, b) := ⟨_, _, rfl⟩
  have h1 : pa.length = 32 := by have := pD_32 s1; rw [hpa] at this; exact this
  have h2 : pb.length = 32 := by have := pD_32 s2; rw [hpb] at this; exact this
  have h3 : pc.length = 32 := by have := pD_32 s3; rw [hpc] at this; exact this
  have h4 : SdsFit ds := by
    have := pSeal_sds (pN 4 s4).1 (pN 4 s4).2
    rw [show pMany pSeal (pN 4 s4).1 (pN 4 s4).2 = pList 4 pSeal s4 from rfl, hds] at this
    exact this
  simp only [ht, hpa, hpb, hpc, hds]
  exact ⟨h1, h2, h3, h4⟩
def BkAt (w : World) (base : Nat) (k : Bk) (es : List Value) : Prop := ∃ v, es = k.cells v ∧ OwnS w base v k.ds
def BlkOk (w : World) (rb : Nat) (k : Bk) (s : S2) (e : Ending) (w' : World) : Prop := ∃ es, e = .returned (.agg es.toArray) ∧ BkAt w' w.heap.size k es ∧ RdAt w' rb s.1 s.2 ∧ Only rb w w'
theorem ownsRow_mono {w : World} {base B : Nat} {ty : TypeId} {sz n : Nat} {v : Value} {cs : List Value} (h : w.ownsRow B ty sz v n cs) (hb : base ≤ B) : w.ownsRow base ty sz v n cs := by
  obtain ⟨h1, ⟨rfl, hn⟩ | ⟨g, cap, cur, rfl, hg, r⟩⟩ := h
  · exact ⟨h1, Or.inl ⟨rfl, hn⟩⟩
  · exact ⟨h1, Or.inr ⟨g, cap, cur, rfl, by omega, r⟩⟩
theorem OwnS.mono {w : World} {base B : Nat} {v : Value} {ds : List Sd} (h : OwnS w B v ds) (hb : base ≤ B) : OwnS w base v ds := by
  obtain ⟨ess, h1, h2, h3⟩ := h
  exact ⟨ess, h1, ownsRow_mono h2 hb, fun i d es hd he => ⟨(h3 i d es hd he).1, (h3 i d es hd he).2.mono hb⟩⟩
theorem OwnS.setLow {w : World} {base : Nat} {v : Value} {ds : List Sd} (h : OwnS w base v ds) {g : Nat} (hg : g < base) (j : Nat) (u : Value) : OwnS (w.setCell ⟨g, j, none⟩ u) base v ds := by
  obtain ⟨ess, h1, h2, h3⟩ := h
  refine ⟨ess, h1, ownsRow_stay h2 fun k hk => Below.heap_setCell _ _ _ _ (by have := (ownsRow_block h2 k hk).1; show k ≠ g; omega), fun i d es hd he => ⟨(h3 i d es hd he).1, ?_⟩⟩
  obtain ⟨cv, e, h4⟩ := (h3 i d es hd he).2
  exact ⟨cv, e, h4.setLow hg j u⟩
theorem OwnS.setsLow {w : World} {base : Nat} {v : Value} {ds : List Sd} (h : OwnS w base v ds) {g : Nat} (hg : g < base) (j : Nat) (us : List Value) : OwnS (w.setCells g j us) base v ds := by
  obtain ⟨ess, h1, h2, h3⟩ := h
  refine ⟨ess, h1, ownsRow_stay h2 fun k hk => heap_setCells g us j w k (by have := (ownsRow_block h2 k hk).1; omega), fun i d es hd he => ⟨(h3 i d es hd he).1, ?_⟩⟩
  obtain ⟨cv, e, h4⟩ := (h3 i d es hd he).2
  exact ⟨cv, e, h4.setsLow hg j us⟩
set_option maxRecDepth 100000 in
set_option maxHeartbeats 8000000 in
theorem block71 (rb : Nat) (s : S2) (w : World) (h : RdAt w rb s.1 s.2) (hf : Fit s) :
    Calls Try.prog 71 #[.pointer (some ⟨rb, 0, none⟩)] w fun e w' => BlkOk w rb (pBlk s).1 (pBlk s).2 e w' := by
  have hS := hid (show St w ((w.alloc (.cells z39.toArray 39)).alloc (.cells z39.toArray 39)) rb w.heap.size 39 z39 z39 s from
    ⟨(Blk.new _ _ _).alloc _, Blk.new' _ _ _ _ (by simp), h.below (((Below.refl _ _).alloc (Nat.le_refl _) _).alloc (by simp) _), ((Only.refl rb w).alloc _).alloc _, Nat.le_refl _, h.lt⟩)
  have hrw := h.lt
  clear h
  have hBF := pBlk_bk s
  unfold pBlk pBlk0 at *
  obtain ⟨t, s1, ht⟩ : ∃ a b, pN 59 s = (a, b) := ⟨_, _, rfl⟩
  obtain ⟨pa, s2, hpa⟩ : ∃ a b, pD s1 = (a, b) := ⟨_, _, rfl⟩
  obtain ⟨pb, s3, hpb⟩ : ∃ a b, pD s2 = (a, b) := ⟨_, _, rfl⟩
  obtain ⟨pc, s4, hpc⟩ : ∃ a b, pD s3 = (a, b) := ⟨_, _, rfl⟩
  obtain ⟨ds, s5, hds⟩ : ∃ a b, pList 4 pSeal s4 = (a, b) := ⟨_, _, rfl⟩
  have F1 : Fit s1 := by have := hf.num 59; rw [ht] at this; exact this
  have F2 : Fit s2 := by have := F1.dig; rw [hpa] at this; exact this
  have F3 : Fit s3 := by have := F2.dig; rw [hpb] at this; exact this
  have F4 : Fit s4 := by have := F3.dig; rw [hpc] at this; exact this
  have hdl : ds.length < 1000 := by
    have h1 : (pList 4 pSeal s4).1.length = (pN 4 s4).1 := pMany_length pSeal (pN 4 s4).1 (pN 4 s4).2
    rw [hds] at h1
    have h2 : (pN 4 s4).1 ≤ 4 := pNum_le
    have h3 : ds.length = (pN 4 s4).1 := h1
    omega
  have K1 : Hid (∀ l W, St w W rb w.heap.size 39 z39 l s → Calls Try.prog 92 #[.pointer (some ⟨rb, 0, none⟩), .int .i64 59] W fun e w' => e = .returned (.int .i64 (t : Int)) ∧ St w w' rb w.heap.size 39 z39 l s1 ∧ Only rb W w') := fun l W h => by have h9 := upTo_st h hf 59 (by omega); rw [ht] at h9; exact h9
  have K2 : Hid (∀ l W, St w W rb w.heap.size 39 z39 l s1 → Calls Try.prog 95 #[.pointer (some ⟨rb, 0, none⟩)] W fun e w' => e = .returned (.agg (pa.map By).toArray) ∧ St w w' rb w.heap.size 39 z39 l s2 ∧ Only rb W w') := fun l W h => by have h9 := digest_st h F1; rw [hpa] at h9; exact h9
  have K3 : Hid (∀ l W, St w W rb w.heap.size 39 z39 l s2 → Calls Try.prog 95 #[.pointer (some ⟨rb, 0, none⟩)] W fun e w' => e = .returned (.agg (pb.map By).toArray) ∧ St w w' rb w.heap.size 39 z39 l s3 ∧ Only rb W w') := fun l W h => by have h9 := digest_st h F2; rw [hpb] at h9; exact h9
  have K4 : Hid (∀ l W, St w W rb w.heap.size 39 z39 l s3 → Calls Try.prog 95 #[.pointer (some ⟨rb, 0, none⟩)] W fun e w' => e = .returned (.agg (pc.map By).toArray) ∧ St w w' rb w.heap.size 39 z39 l s4 ∧ Only rb W w') := fun l W h => by have h9 := digest_st h F3; rw [hpc] at h9; exact h9
  have K5 : Hid (∀ l W, St w W rb w.heap.size 39 z39 l s4 → Calls Try.prog 98 #[.pointer (some ⟨rb, 0, none⟩), .int .i64 4, .func (.func 67) #[] #[]] W fun e w' => ∃ p N cap, N = ds.length ∧ e = .returned (.slice p N cap) ∧ OwnS w' W.heap.size (.slice p N cap) ds ∧ St w w' rb w.heap.size 39 z39 l s5 ∧ Only rb W w') := fun l W h => by
    have h9 := list98 rb 4 (by omega) s4 W h.rd F4
    rw [hds] at h9
    exact h9.mono fun e w' ⟨p, N, cap, a1, a2, a3, a4, a5⟩ => ⟨p, N, cap, a1, a2, a3, h.call a5 a4, a5⟩
  have K7 : Hid (∀ (k : Bk) (p : Option Addr) (N cap : Nat) (W : World), BkFit k → N = k.ds.length → N < 1000 → SdsAt W (.slice p N cap) k.ds → Calls Try.prog 60 #[.agg (k.cells (.slice p N cap)).toArray] W fun e w' => e = .returned (.bool k.ok) ∧ Below W.heap.size W w') := fun k p N cap W h1 h2 h3 h4 => blockFormed60 k h1 p N cap W h2 h4 (by omega)
  have K8 : Hid (∀ (s : S2) (W : World), RdAt W rb s.1 s.2 → Calls Try.prog 96 #[.pointer (some ⟨rb, 0, none⟩)] W fun e w' => e = .returned (.tuple #[]) ∧ RdAt w' rb [] true ∧ Only rb W w') := fun s W h => fail_any rb s.1 s.2 W h
  simp only [ht, hpa, hpb, hpc, hds] at hBF ⊢
  obtain ⟨ok, hok⟩ : ∃ ok, ok = (⟨t, pa, pb, pc, ds⟩ : Bk).ok := ⟨_, rfl⟩
  rw [← hok]
  obtain ⟨s7, hs7⟩ : ∃ s7, s7 = (if ok = true then s5 else ([], true)) := ⟨_, rfl⟩
  rw [← hs7]
  have HS7 := hid hs7
  have HBF := hid hBF
  have la : (pa.map By).length = 32 := by rw [List.length_map]; exact hBF.p
  have lb : (pb.map By).length = 32 := by rw [List.length_map]; exact hBF.r
  have lc : (pc.map By).length = 32 := by rw [List.length_map]; exact hBF.s
  have lz := zB_length 32
  have HDL := hid hdl
  clear hs7 ht hpa hpb hpc hds F1 F2 F3 F4 hf hBF hdl
  go_enter Try.func71, Try.ntmps71
  go_wp2_with fail
  refine Calls.mono (K1.out _ _ hS.out) ?_
  rintro e w1 ⟨rfl, T1, O1⟩
  have c1 : w1.cell? ⟨w.heap.size + 1, 0, none⟩ = some (.int .i64 0) := T1.own.cell 0
  have f1 := T1.own.frozen 0
  have S1 : Hid (St w (w1.setCell ⟨w.heap.size + 1, 0, none⟩ (.int .i64 (t : Int))) rb w.heap.size 39 z39 (bkL t (zB 32) (zB 32) (zB 32) (.slice none 0 0)) s1) := T1.set 0 _
  clear T1 O1 hS K1
  go_wp2_with fail
  refine Calls.mono (K2.out _ _ S1.out) ?_
  rintro e w2 ⟨rfl, T2, O2⟩
  have hi36_2 : (Try.prog.info? 36).map (·.size) = some (pa.map By).length := by rw [la]; exact size36
  have hth2 := T2.own.there 1 (pa.map By).length (by rw [la, bkL_length _ _ _ _ _ lz lz lz]; omega)
  have hone2 := hid (mapBy_one pa)
  have S2 : Hid (St w (w2.setCells (w.heap.size + 1) 1 (pa.map By)) rb w.heap.size 39 z39 (bkL t (pa.map By) (zB 32) (zB 32) (.slice none 0 0)) s2) := by
    have h9 := T2.sets 1 (pa.map By) (by rw [la, bkL_length _ _ _ _ _ lz lz lz]; omega)
    rw [bkL_over1 _ _ _ _ _ lz _ la] at h9
    exact h9
  clear T2 O2 S1 K2 c1 f1
  go_upto_region 4 with (first
    | ((with_reducible refine wpL_store 36 (w.heap.size + 1) 1 (pa.map By) ?_ ?_ hth2 hi36_2 hone2.out ?_); (rfl); (rfl); (simp only [Act.put])))
  clear hth2 hi36_2 hone2
  generalize w2.setCells (w.heap.size + 1) 1 (pa.map By) = V2 at *
  go_wp2_with fail
  refine Calls.mono (K3.out _ _ S2.out) ?_
  rintro e w3 ⟨rfl, T3, O3⟩
  have hi36_3 : (Try.prog.info? 36).map (·.size) = some (pb.map By).length := by rw [lb]; exact size36
  have hth3 := T3.own.there 33 (pb.map By).length (by rw [lb, bkL_length _ _ _ _ _ la lz lz]; omega)
  have hone3 := hid (mapBy_one pb)
  have S3 : Hid (St w (w3.setCells (w.heap.size + 1) 33 (pb.map By)) rb w.heap.size 39 z39 (bkL t (pa.map By) (pb.map By) (zB 32) (.slice none 0 0)) s3) := by
    have h9 := T3.sets 33 (pb.map By) (by rw [lb, bkL_length _ _ _ _ _ la lz lz]; omega)
    rw [bkL_over33 _ _ _ _ _ la lz _ lb] at h9
    exact h9
  clear T3 O3 S2 K3
  go_upto_region 5 with (first
    | ((with_reducible refine wpL_store 36 (w.heap.size + 1) 33 (pb.map By) ?_ ?_ hth3 hi36_3 hone3.out ?_); (rfl); (rfl); (simp only [Act.put])))
  clear hth3 hi36_3 hone3
  generalize w3.setCells (w.heap.size + 1) 33 (pb.map By) = V3 at *
  go_wp2_with fail
  refine Calls.mono (K4.out _ _ S3.out) ?_
  rintro e w4 ⟨rfl, T4, O4⟩
  have hi36_4 : (Try.prog.info? 36).map (·.size) = some (pc.map By).length := by rw [lc]; exact size36
  have hth4 := T4.own.there 65 (pc.map By).length (by rw [lc, bkL_length _ _ _ _ _ la lb lz]; omega)
  have hone4 := hid (mapBy_one pc)
  have S4 : Hid (St w (w4.setCells (w.heap.size + 1) 65 (pc.map By)) rb w.heap.size 39 z39 (bkL t (pa.map By) (pb.map By) (pc.map By) (.slice none 0 0)) s4) := by
    have h9 := T4.sets 65 (pc.map By) (by rw [lc, bkL_length _ _ _ _ _ la lb lz]; omega)
    rw [bkL_over65 _ _ _ _ _ la lb lz _ lc] at h9
    exact h9
  clear T4 O4 S3 K4
  go_upto_region 6 with (first
    | ((with_reducible refine wpL_store 36 (w.heap.size + 1) 65 (pc.map By) ?_ ?_ hth4 hi36_4 hone4.out ?_); (rfl); (rfl); (simp only [Act.put])))
  clear hth4 hi36_4 hone4
  generalize w4.setCells (w.heap.size + 1) 65 (pc.map By) = V4 at *
  go_wp2_with fail
  refine Calls.mono (K5.out _ _ S4.out) ?_
  rintro e w5 ⟨p, N, cap, hN, rfl, hOw, T5, O5⟩
  have c5 : w5.cell? ⟨w.heap.size + 1, 97, none⟩ = some (.slice none 0 0) := by rw [T5.own.cell 97]; exact bkL_get97 _ _ _ _ _ la lb lc
  have f5 := T5.own.frozen 97
  have hb5 : w.heap.size + 1 < V4.heap.size := S4.out.own.lt
  have S6 : Hid (St w (w5.setCell ⟨w.heap.size + 1, 97, none⟩ (.slice p N cap)) rb w.heap.size 39 z39 ((⟨t, pa, pb, pc, ds⟩ : Bk).cells (.slice p N cap)) s5) := by
    have h9 := T5.set 97 (.slice p N cap)
    rw [bkL_set97 _ _ _ _ _ la lb lc] at h9
    exact h9
  have Ow6 := hid (hOw.setLow hb5 97 (.slice p N cap))
  obtain ⟨base, hbase⟩ : ∃ b, b = V4.heap.size := ⟨_, rfl⟩
  rw [← hbase] at hb5 Ow6
  have HN := hid hN
  clear T5 O5 S4 K5 hbase hOw hN
  go_upto_region 7 with (fail)
  clear c5 f5
  generalize w5.setCell ⟨w.heap.size + 1, 97, none⟩ (.slice p N cap) = W6 at *
  obtain ⟨E, hE⟩ : ∃ E, E = (⟨t, pa, pb, pc, ds⟩ : Bk).cells (.slice p N cap) := ⟨_, rfl⟩
  have hEl : E.length = 98 := by rw [hE]; exact bkL_length _ _ _ _ _ la lb lc
  have hi39 : (Try.prog.info? 39).map (·.size) = some E.length := by rw [hEl]; exact size39
  have honeE : Hid (∀ v ∈ E, v.oneCell' = true) := by
    rw [hE]; intro v hv
    simp only [Bk.cells, bkL, List.mem_cons, List.mem_append, List.not_mem_nil, or_false] at hv
    rcases hv with rfl | hv | hv | hv | rfl
    · rfl
    · exact mapBy_one _ v hv
    · exact mapBy_one _ v hv
    · exact mapBy_one _ v hv
    · rfl
  have hcall := hid (K7.out (⟨t, pa, pb, pc, ds⟩ : Bk) p N cap W6 HBF.out HN.out (by rw [HN.out]; exact HDL.out) Ow6.out.at)
  rw [← hE] at S6 hcall
  have HE := hid hE
  have hr6 := S6.out.own.range
  clear hE K7
  rw [← hok] at hcall
  have hz : z39.length = E.length := by rw [hEl]; exact bkL_length _ _ _ _ _ lz lz lz
  clear hok
  have HFIN := hid (show ∀ W s', St w W rb w.heap.size 39 z39 E s' → OwnS W base (.slice p N cap) ds → W.rangeAt (w.heap.size + 1) 0 E ∧ W.there w.heap.size 0 E.length ∧ Blk (W.setCells w.heap.size 0 E) w.heap.size E 39 ∧ BkAt (W.setCells w.heap.size 0 E) w.heap.size (⟨t, pa, pb, pc, ds⟩ : Bk) E ∧ RdAt (W.setCells w.heap.size 0 E) rb s'.1 s'.2 ∧ Only rb w (W.setCells w.heap.size 0 E) from fun W s' hS hO => by
    obtain ⟨g1, g2, g3⟩ := hS.fin hz
    exact ⟨hS.own.range, hS.res.there 0 _ (by omega), g1, ⟨_, HE.out, (hO.setsLow (by omega) 0 E).mono (by omega)⟩, g2, g3⟩)
  go_wp2_with (first
    | ((with_reducible refine wpL_load 39 (w.heap.size + 1) 0 E _ ?_ hr6 Try.underlying39 ?_ hi39 ?_); (rfl); (rfl); (simp only [Act.put, List.setIfInBounds_toArray, List.set_cons_zero, List.set_cons_succ])))
  refine Calls.mono hcall.out ?_
  rintro e w7 ⟨rfl, hb7⟩
  have S7 := hid (S6.out.below hb7)
  have Ow7 := hid (Ow6.out.below hb7)
  clear S6 Ow6 hb7 hcall hr6
  rcases ok with _ | _
  · have hf8 := hid (K8.out _ _ S7.out.rd)
    go_wp2_with fail
    refine Calls.mono hf8.out ?_
    rintro e w8 ⟨rfl, hR8, hO8⟩
    have S8 := S7.out.call (s' := ([], true)) hO8 hR8
    have Ow8 := Ow7.out.only hO8 (by omega)
    obtain ⟨g1, g2, g3, g4, g5, g6⟩ := HFIN.out _ _ S8 Ow8
    clear S8 Ow8 S7 Ow7 hf8 hR8 hO8 HFIN
    go_wp2_with (first
      | ((with_reducible refine wpL_load 39 (w.heap.size + 1) 0 E _ ?_ g1 Try.underlying39 ?_ hi39 ?_); (rfl); (rfl); (simp only [Act.put, List.setIfInBounds_toArray, List.set_cons_zero, List.set_cons_succ]))
      | ((with_reducible refine wpL_store 39 w.heap.size 0 E ?_ ?_ g2 hi39 honeE.out ?_); (rfl); (rfl); (simp only [Act.put])))
    refine bodyPost_ret (results_array Try.results71 rfl g3 Try.underlying39 rfl hi39) rfl ?_
    rw [show s7 = ([], true) from HS7.out]
    exact ⟨E, rfl, g4, g5, g6⟩
  · obtain ⟨g1, g2, g3, g4, g5, g6⟩ := HFIN.out _ _ S7.out Ow7.out
    clear S7 Ow7 HFIN
    go_wp2_with (first
      | ((with_reducible refine wpL_load 39 (w.heap.size + 1) 0 E _ ?_ g1 Try.underlying39 ?_ hi39 ?_); (rfl); (rfl); (simp only [Act.put, List.setIfInBounds_toArray, List.set_cons_zero, List.set_cons_succ]))
      | ((with_reducible refine wpL_store 39 w.heap.size 0 E ?_ ?_ g2 hi39 honeE.out ?_); (rfl); (rfl); (simp only [Act.put])))
    refine bodyPost_ret (results_array Try.results71 rfl g3 Try.underlying39 rfl hi39) rfl ?_
    rw [show s7 = s5 from HS7.out]
    exact ⟨E, rfl, g4, g5, g6⟩
end Go.Proofs.Ytpiflgbcbhnmpaa
