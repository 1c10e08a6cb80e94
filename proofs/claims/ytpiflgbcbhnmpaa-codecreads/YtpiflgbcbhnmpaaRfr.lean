/- The reference's ReadResult 37. -/
import Derived.Test.YtpiflgbcbhnmpaaRfw
namespace Go.Proofs.Ytpiflgbcbhnmpaa
open Go.RowKit
attribute [local go_sem ↓] zv47 zv39 zv41
/-- The result's variable, the reader, one's own variable, side by side. -/
structure Sq (w0 w : World) (l : List Value) (s : S2) : Prop where
  res : Blk w w0.heap.size z41 41
  rd : RfAt w (w0.heap.size + 1) s
  own : Blk w (w0.heap.size + 2) l 41
  be : Below w0.heap.size w0 w
theorem Sq.call {w0 w w' : World} {l : List Value} {s s' : S2} (h : Sq w0 w l s) (ho : Only (w0.heap.size + 1) w w') (hr : RfAt w' (w0.heap.size + 1) s') : Sq w0 w' l s' :=
  ⟨ho.blk h.res (by omega), hr, ho.blk h.own (by omega), Only.under h.be ho (by omega) h.be.size⟩
theorem Sq.set {w0 w : World} {l : List Value} {s : S2} (h : Sq w0 w l s) (j : Nat) (v : Value) : Sq w0 (w.setCell ⟨w0.heap.size + 2, j, none⟩ v) (l.set j v) s :=
  ⟨h.res.set_ne _ (by show w0.heap.size ≠ w0.heap.size + 2; omega) v, h.rd.setNew (by omega) h.own (by decide) j v, h.own.set j v, h.be.setCell (by show w0.heap.size ≤ w0.heap.size + 2; omega) v⟩
theorem Sq.sets {w0 w : World} {l : List Value} {s : S2} (h : Sq w0 w l s) (o : Nat) (vs : List Value) (hl : o + vs.length ≤ l.length) : Sq w0 (w.setCells (w0.heap.size + 2) o vs) (over l o vs) s :=
  ⟨h.res.setCells_ne _ (by omega) o vs, h.rd.setsNew (by omega) h.own (by decide) o vs, Blk.setCells vs o h.own hl, Below.setCells h.be (by omega) o vs⟩
theorem Sq.num {w0 w : World} {l : List Value} {s : S2} (h : Sq w0 w l s) (hg : Gd s) (most : Nat) (hm : most < 9223372036854775808) (lim : Int) (hl : (most : Int) + 1 = lim) :
    Calls Try.prog 75 #[.pointer (some ⟨w0.heap.size + 1, 0, none⟩), .int .u64 lim] w fun e w' => e = .returned (.int .u64 ((pN most s).1 : Int)) ∧ Sq w0 w' l (pN most s).2 := by
  subst hl
  exact (number75 _ most hm s hg w h.rd).mono fun _ _ ⟨he, hr, ho⟩ => ⟨he, h.call ho hr⟩
theorem Sq.dig {w0 w : World} {l : List Value} {s : S2} (h : Sq w0 w l s) (hg : Gd s) :
    Calls Try.prog 76 #[.pointer (some ⟨w0.heap.size + 1, 0, none⟩)] w fun e w' => e = .returned (.agg ((pD s).1.map By).toArray) ∧ Sq w0 w' l (pD s).2 :=
  (digest76 _ s hg w h.rd).mono fun _ _ ⟨he, hr, ho⟩ => ⟨he, h.call ho hr⟩
set_option maxRecDepth 100000 in
set_option maxHeartbeats 8000000 in
theorem read37 (bs : List Nat) (hbs : Byt bs) (p : Option Addr) (M cap : Nat) (w : World) (hM : M = bs.length) (hB : BytesAt w (.slice p M cap) bs) :
    Calls Try.prog 37 #[.slice p M cap] w fun e w' => WhRs w (wh73 bs) (whE bs.length (pRes (bs, false)).2) e w' := by
  have hZl : z41.length = 67 := rsC_length _ _ _ _ _ (zB_length 32) (zB_length 32)
  have hiz : (Try.prog.info? 41).map (·.size) = some z41.length := by rw [hZl]; exact size41
  have hB0 : Blk (w.alloc (.cells z41.toArray 41)) w.heap.size z41 41 := Blk.new _ _ _
  have hbe : Below w.heap.size w (w.alloc (.cells z41.toArray 41)) := (Below.refl _ _).alloc (Nat.le_refl _) _
  have hone := hid (show ∀ v ∈ z41, v.oneCell' = true from fun v hv => by
    simp only [z41, rsC, List.mem_cons, List.mem_append] at hv
    rcases hv with rfl | rfl | rfl | hv | hv
    · rfl
    · rfl
    · rfl
    · exact mapBy_one _ v hv
    · exact mapBy_one _ v hv)
  have HZ := hid (show ∀ W : World, (z41 = Rs.cells rs0) from fun _ => rfl)
  obtain ⟨d, s, hds⟩ : ∃ d s, pRes (bs, false) = (d, s) := ⟨_, _, rfl⟩
  unfold wh73
  rw [hds]
  show Calls _ _ _ _ fun e w' => WhRs w (if whE bs.length s = 0 then d else rs0) (whE bs.length s) e w'
  by_cases hbig : 262144 < bs.length
  · have e1 : (262144 : Int) < (M : Int) := by omega
    rw [show whE bs.length s = 1 by unfold whE; rw [if_pos hbig], if_neg (by decide)]
    clear hB hM hbs hbig hds
    have hth := hB0.there 0 z41.length (by omega)
    have hbr := Blk.setCells z41 0 hB0 (by omega)
    rw [show over z41 0 z41 = z41 by simp [over]] at hbr
    have hbf := hid (Below.setCells hbe (b := w.heap.size) (Nat.le_refl _) 0 z41)
    go_enter Try.func37, Try.ntmps37
    go_wp2_with (first
      | ((with_reducible refine wpL_store 41 w.heap.size 0 z41 ?_ ?_ hth hiz hone.out ?_); (rfl); (rfl); (simp only [Act.put])))
    exact bodyPost_ret (results_cell_tmp Try.results37 rfl rfl hbr Try.underlying41 rfl hiz) rfl ⟨_, rfl, HZ.out w, hZl, hone.out, hbf.out⟩
  · have e1 : ¬ (262144 : Int) < (M : Int) := by omega
    have hRd := RfAt.start (W := w.alloc (.cells z41.toArray 41)) (hB.below hbe) hbs (by omega)
    have hS : Hid (Sq w (((w.alloc (.cells z41.toArray 41)).alloc (.cells #[.slice p M cap, .bool false] 99)).alloc (.cells z41.toArray 41)) z41 (bs, false)) := by
      refine ⟨(hB0.alloc _).alloc _, ?_, Blk.new' _ _ _ _ (by simp), (hbe.alloc hbe.size _).alloc (Nat.le_trans hbe.size (by simp)) _⟩
      have h9 := hRd.below ((Below.refl _ _).alloc (Nat.le_refl _) (.cells z41.toArray 41))
      rw [show (w.alloc (.cells z41.toArray 41)).heap.size = w.heap.size + 1 by simp] at h9
      exact h9
    have hE0 : whE bs.length s = if s.2 = true ∨ 0 < s.1.length then 11 else 0 := by unfold whE; rw [if_neg hbig]
    rw [hE0]
    obtain ⟨EF, hEF⟩ : ∃ E : Int, E = (if s.2 = true ∨ 0 < s.1.length then 11 else 0) := ⟨_, rfl⟩
    rw [← hEF]
    obtain ⟨DF, hDF⟩ : ∃ D, D = (if EF = 0 then d else rs0) := ⟨_, rfl⟩
    rw [← hDF]
    have HBADF := hid (show (s.2 = true ∨ 0 < s.1.length) → EF = 11 ∧ DF = rs0 from fun h => by rw [if_pos h] at hEF; rw [hEF] at hDF; rw [if_neg (by decide)] at hDF; exact ⟨hEF, hDF⟩)
    have HOKF := hid (show ¬ (s.2 = true ∨ 0 < s.1.length) → EF = 0 ∧ DF = d from fun h => by rw [if_neg h] at hEF; rw [hEF] at hDF; rw [if_pos rfl] at hDF; exact ⟨hEF, hDF⟩)
    unfold pRes at hds
    obtain ⟨s0, hs0⟩ : ∃ s0 : S2, s0 = (bs, false) := ⟨_, rfl⟩
    have G0 : Gd s0 := by rw [hs0]; exact fun h => by cases h
    rw [← hs0] at hds hS
    obtain ⟨m, s1, hm⟩ : ∃ a b, pN 9223372036854775807 s0 = (a, b) := ⟨_, _, rfl⟩
    obtain ⟨t, s2, ht⟩ : ∃ a b, pN 60 s1 = (a, b) := ⟨_, _, rfl⟩
    obtain ⟨n, s3, hn⟩ : ∃ a b, pN 4 s2 = (a, b) := ⟨_, _, rfl⟩
    obtain ⟨pa, s4, hpa⟩ : ∃ a b, pD s3 = (a, b) := ⟨_, _, rfl⟩
    obtain ⟨pb, s5, hpb⟩ : ∃ a b, pD s4 = (a, b) := ⟨_, _, rfl⟩
    have G1 : Gd s1 := by have := pN_gd G0 9223372036854775807; rw [hm] at this; exact this
    have G2 : Gd s2 := by have := pN_gd G1 60; rw [ht] at this; exact this
    have G3 : Gd s3 := by have := pN_gd G2 4; rw [hn] at this; exact this
    have G4 : Gd s4 := by have := pD_gd G3; rw [hpa] at this; exact this
    have la : (pa.map By).length = 32 := by have := pD_32 s3; rw [hpa] at this; rw [List.length_map]; exact this
    have lb : (pb.map By).length = 32 := by have := pD_32 s4; rw [hpb] at this; rw [List.length_map]; exact this
    have hn4 : n ≤ 4 := by have := pN_le 4 s2; rw [hn] at this; exact this
    have ht60 : t ≤ 60 := by have := pN_le 60 s1; rw [ht] at this; exact this
    have hm63 : m ≤ 9223372036854775807 := by have := pN_le 9223372036854775807 s0; rw [hm] at this; exact this
    simp only [hm, ht, hn, hpa, hpb] at hds
    obtain ⟨hd1, hd2⟩ := Prod.mk.inj hds
    subst hd2
    have HD := hid (fun (_ : Nat) => hd1)
    have K1 : Hid (∀ l W, Sq w W l s0 → Calls Try.prog 75 #[.pointer (some ⟨w.heap.size + 1, 0, none⟩), .int .u64 9223372036854775808] W fun e w' => e = .returned (.int .u64 (m : Int)) ∧ Sq w w' l s1) := fun l W h => by have h9 := h.num G0 9223372036854775807 (by omega) 9223372036854775808 (by rfl); rw [hm] at h9; exact h9
    have K2 : Hid (∀ l W, Sq w W l s1 → Calls Try.prog 75 #[.pointer (some ⟨w.heap.size + 1, 0, none⟩), .int .u64 61] W fun e w' => e = .returned (.int .u64 (t : Int)) ∧ Sq w w' l s2) := fun l W h => by have h9 := h.num G1 60 (by omega) 61 (by rfl); rw [ht] at h9; exact h9
    have K3 : Hid (∀ l W, Sq w W l s2 → Calls Try.prog 75 #[.pointer (some ⟨w.heap.size + 1, 0, none⟩), .int .u64 5] W fun e w' => e = .returned (.int .u64 (n : Int)) ∧ Sq w w' l s3) := fun l W h => by have h9 := h.num G2 4 (by omega) 5 (by rfl); rw [hn] at h9; exact h9
    have K4 : Hid (∀ l W, Sq w W l s3 → Calls Try.prog 76 #[.pointer (some ⟨w.heap.size + 1, 0, none⟩)] W fun e w' => e = .returned (.agg (pa.map By).toArray) ∧ Sq w w' l s4) := fun l W h => by have h9 := h.dig G3; rw [hpa] at h9; exact h9
    have K5 : Hid (∀ l W, Sq w W l s4 → Calls Try.prog 76 #[.pointer (some ⟨w.heap.size + 1, 0, none⟩)] W fun e w' => e = .returned (.agg (pb.map By).toArray) ∧ Sq w w' l s5) := fun l W h => by have h9 := h.dig G4; rw [hpb] at h9; exact h9
    have lz := zB_length 32
    have wn : IntKind.i64.wrap ((n : Int) - 1) = (n : Int) - 1 := by rw [IntKind.wrap_i64]; omega
    have i1 : (t : Int) ≤ 60 := by omega
    have i2 : (n : Int) ≤ 4 := by omega
    clear hB hM hbs hbig hE0 hEF hDF hB0 hbe hRd hds hd1 hs0 hm ht hn hpa hpb G0 G1 G2 G3 G4 hm63 ht60 hn4
    go_enter Try.func37, Try.ntmps37
    go_wp2_with fail
    refine Calls.mono (K1.out _ _ hS.out) ?_
    rintro e w1 ⟨rfl, T1⟩
    have c1 : w1.cell? ⟨w.heap.size + 2, 0, none⟩ = some (.int .u64 0) := T1.own.cell 0
    have f1 := T1.own.frozen 0
    have S1 : Hid (Sq w (w1.setCell ⟨w.heap.size + 2, 0, none⟩ (.int .u64 (m : Int))) (rsC m 0 0 (zB 32) (zB 32)) s1) := T1.set 0 _
    clear T1 hS K1
    go_wp2_with fail
    refine Calls.mono (K2.out _ _ S1.out) ?_
    rintro e w2 ⟨rfl, T2⟩
    have c2 : w2.cell? ⟨w.heap.size + 2, 1, none⟩ = some (.int .i64 0) := T2.own.cell 1
    have f2 := T2.own.frozen 1
    have S2 : Hid (Sq w (w2.setCell ⟨w.heap.size + 2, 1, none⟩ (.int .i64 (t : Int))) (rsC m t 0 (zB 32) (zB 32)) s2) := T2.set 1 _
    clear T2 S1 K2 c1 f1
    go_wp2_with fail
    refine Calls.mono (K3.out _ _ S2.out) ?_
    rintro e w3 ⟨rfl, T3⟩
    have c3 : w3.cell? ⟨w.heap.size + 2, 2, none⟩ = some (.int .i64 0) := T3.own.cell 2
    have f3 := T3.own.frozen 2
    have S3 : Hid (Sq w (w3.setCell ⟨w.heap.size + 2, 2, none⟩ (.int .i64 ((n : Int) - 1))) (rsC m t ((n : Int) - 1) (zB 32) (zB 32)) s3) := T3.set 2 _
    clear T3 S2 K3 c2 f2
    go_wp2_with fail
    refine Calls.mono (K4.out _ _ S3.out) ?_
    rintro e w4 ⟨rfl, T4⟩
    have hi36_4 : (Try.prog.info? 36).map (·.size) = some (pa.map By).length := by rw [la]; exact size36
    have hth4 := T4.own.there 3 (pa.map By).length (by rw [la, rsC_length _ _ _ _ _ lz lz]; omega)
    have hone4 := hid (mapBy_one pa)
    have S4 : Hid (Sq w (w4.setCells (w.heap.size + 2) 3 (pa.map By)) (rsC m t ((n : Int) - 1) (pa.map By) (zB 32)) s4) := by
      have h9 := T4.sets 3 (pa.map By) (by rw [la, rsC_length _ _ _ _ _ lz lz]; omega)
      rw [rsC_over3 _ _ _ _ _ lz _ la] at h9
      exact h9
    clear T4 S3 K4 c3 f3
    go_upto_region 9 with (first
      | ((with_reducible refine wpL_store 36 (w.heap.size + 2) 3 (pa.map By) ?_ ?_ hth4 hi36_4 hone4.out ?_); (rfl); (rfl); (simp only [Act.put])))
    clear hth4 hi36_4 hone4
    generalize w4.setCells (w.heap.size + 2) 3 (pa.map By) = V4 at *
    go_wp2_with fail
    refine Calls.mono (K5.out _ _ S4.out) ?_
    rintro e w5 ⟨rfl, T5⟩
    have hi36_5 : (Try.prog.info? 36).map (·.size) = some (pb.map By).length := by rw [lb]; exact size36
    have hth5 := T5.own.there 35 (pb.map By).length (by rw [lb, rsC_length _ _ _ _ _ la lz]; omega)
    have hone5 := hid (mapBy_one pb)
    have S5 : Hid (Sq w (w5.setCells (w.heap.size + 2) 35 (pb.map By)) (rsC m t ((n : Int) - 1) (pa.map By) (pb.map By)) s5) := by
      have h9 := T5.sets 35 (pb.map By) (by rw [lb, rsC_length _ _ _ _ _ la lz]; omega)
      rw [rsC_over35 _ _ _ _ _ la lz _ lb] at h9
      exact h9
    clear T5 S4 K5
    go_upto_region 10 with (first
      | ((with_reducible refine wpL_store 36 (w.heap.size + 2) 35 (pb.map By) ?_ ?_ hth5 hi36_5 hone5.out ?_); (rfl); (rfl); (simp only [Act.put])))
    clear hth5 hi36_5 hone5
    generalize w5.setCells (w.heap.size + 2) 35 (pb.map By) = V5 at *
    obtain ⟨E, hE⟩ : ∃ E, E = rsC m t ((n : Int) - 1) (pa.map By) (pb.map By) := ⟨_, rfl⟩
    have hEl : E.length = 67 := by rw [hE]; exact rsC_length _ _ _ _ _ la lb
    have hi41 : (Try.prog.info? 41).map (·.size) = some E.length := by rw [hEl]; exact size41
    have honeE : Hid (∀ v ∈ E, v.oneCell' = true) := by
      rw [hE]; intro v hv
      simp only [rsC, List.mem_cons, List.mem_append] at hv
      rcases hv with rfl | rfl | rfl | hv | hv
      · rfl
      · rfl
      · rfl
      · exact mapBy_one _ v hv
      · exact mapBy_one _ v hv
    rw [← hE] at S5
    have hzl : z41.length = E.length := by rw [hEl, hZl]
    have HE : Hid (E = Rs.cells d) := by rw [hE, ← HD.out 0]; exact hid rfl
    have hFIN := hid (show ∀ X : List Value, X.length = z41.length → V5.there w.heap.size 0 X.length ∧ Blk (V5.setCells w.heap.size 0 X) w.heap.size X 41 ∧ Below w.heap.size w (V5.setCells w.heap.size 0 X) from fun X hX => by
      have h1 := Blk.setCells X 0 S5.out.res (by omega)
      rw [show over z41 0 X = X by simp [over, hX]] at h1
      exact ⟨S5.out.res.there 0 _ (by omega), h1, Below.setCells S5.out.be (Nat.le_refl _) 0 X⟩)
    have hrn := S5.out.own.range
    have hend := hid (ended69 (w.heap.size + 1) s5 V5 S5.out.rd)
    obtain ⟨bd, hbd⟩ : ∃ bd, bd = (!s5.2 && decide (s5.1.length = 0)) := ⟨_, rfl⟩
    rw [← hbd] at hend
    have HBD := hid (fun (_ : Nat) => hbd)
    obtain ⟨x1, x2, x3⟩ := hFIN.out z41 rfl
    obtain ⟨y1, y2, y3⟩ := hFIN.out E hzl.symm
    have X3 := hid x3
    have Y3 := hid y3
    clear hFIN x3 y3 hbd S5 hE la lb lz
    cases bd
    · have hc : s5.2 = true ∨ 0 < s5.1.length := by
        have := HBD.out 0
        cases hs : s5.2
        · rw [hs] at this; simp at this
          exact Or.inr (List.length_pos_iff.2 this)
        · exact Or.inl rfl
      obtain ⟨q1, q2⟩ := HBADF.out hc
      have Q1 := hid q1
      have Q2 := hid q2
      clear q1 q2 hc
      go_wp2_with fail
      refine Calls.mono hend.out ?_
      rintro e w4 ⟨rfl, rfl⟩
      clear hend
      go_wp2_with (first
        | ((with_reducible refine wpL_store 41 w.heap.size 0 z41 ?_ ?_ x1 hiz hone.out ?_); (rfl); (rfl); (simp only [Act.put])))
      exact bodyPost_ret (results_cell_tmp Try.results37 rfl rfl x2 Try.underlying41 rfl hiz) rfl (by rw [Q1.out, Q2.out]; exact ⟨_, rfl, HZ.out w, hZl, hone.out, X3.out⟩)
    · have hc : s5.2 = false ∧ s5.1.length = 0 := by
        have := HBD.out 0
        cases hs : s5.2
        · rw [hs] at this; simp at this; exact ⟨rfl, by rw [this]; rfl⟩
        · rw [hs] at this; cases this
      obtain ⟨q1, q2⟩ := HOKF.out (by rw [hc.1, hc.2]; simp)
      have Q1 := hid q1
      have Q2 := hid q2
      clear q1 q2 hc
      go_wp2_with fail
      refine Calls.mono hend.out ?_
      rintro e w4 ⟨rfl, rfl⟩
      clear hend
      go_wp2_with (first
        | ((with_reducible refine wpL_load 41 (w.heap.size + 2) 0 E _ ?_ hrn Try.underlying41 ?_ hi41 ?_); (rfl); (rfl); (simp only [Act.put, List.setIfInBounds_toArray, List.set_cons_zero, List.set_cons_succ]))
        | ((with_reducible refine wpL_store 41 w.heap.size 0 E ?_ ?_ y1 hi41 honeE.out ?_); (rfl); (rfl); (simp only [Act.put])))
      exact bodyPost_ret (results_cell_tmp Try.results37 rfl rfl y2 Try.underlying41 rfl hi41) rfl (by rw [Q1.out, Q2.out]; exact ⟨_, rfl, HE.out, hEl, honeE.out, Y3.out⟩)
end Go.Proofs.Ytpiflgbcbhnmpaa
