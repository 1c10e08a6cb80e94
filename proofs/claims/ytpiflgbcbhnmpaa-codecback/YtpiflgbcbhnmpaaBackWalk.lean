/- The walk of the law CodecBack. -/
import Derived.Test.YtpiflgbcbhnmpaaBackParts
namespace Go.Proofs.Ytpiflgbcbhnmpaa
open Go.RowKit
theorem neqGuard_R (w : World) (x y : Operand) (a b : Array Value) : (eqGuard .neq 41 x y (.agg a) (.agg b)).run Try.prog w = .ok () w := by
  simp [eqGuard, Sem.run_bind, go_sem]
attribute [local go_sem] neqGuard_R
/-- What a writer of a replay answers. -/
def Wro (ks : List Bk) (W : World) (e : Ending) (w' : World) : Prop := ∃ (p : Option Addr) (L c : Nat) (E : Int), e = .returned (.tuple #[.slice p L c, .int .i64 E]) ∧ Below W.heap.size W w' ∧ (E = 0 → bksOk ks = true ∧ L = (bksB ks).length ∧ BytesAt w' (.slice p L c) (bksB ks))
theorem wro43 (ks : List Bk) (hfit : ∀ k ∈ ks, BkFit k ∧ k.ds.length < 1000000000) (p : Option Addr) (N cap : Nat) (w : World) (hN : N = ks.length) (h : BksLo w w.heap.size (.slice p N cap) ks) (hsz : N < 1000000000) : Calls Try.prog 43 #[.slice p N cap] w fun e w' => Wro ks w e w' := by
  refine (replay43 ks hfit p N cap w hN h hsz).mono fun e w' he => ?_
  obtain ⟨q, L, c, hL, rfl, ho, hb⟩ := he
  refine ⟨q, L, c, _, rfl, hb, fun h0 => ?_⟩
  have hok : bksOk ks = true := by
    unfold repE at h0
    split at h0
    · assumption
    · simp at h0
  have e : repL ks = bksB ks := by unfold repL; rw [if_pos hok]
  rw [e] at hL ho
  exact ⟨hok, hL, ho.bytes⟩
/-- What the law asks of one block of the list. -/
def One (w : World) (p : Option Addr) (i : Nat) : Prop :=
  ∃ (ok : Bool) (b o : Nat) (E : List Value) (LB : List Nat), p = some ⟨b, o, none⟩ ∧ E.length = 98 ∧ (∀ w', Below w.heap.size w w' → w'.rangeAt b (o + i * 98) E) ∧
    (ok = false → ∀ W1, Below w.heap.size w W1 → Calls Try.prog 26 #[.agg E.toArray] W1 fun e w' => OutE W1 W1.heap.size LB 4 e w') ∧
    (ok = true → ∀ W1, Below w.heap.size w W1 → Calls Try.prog 26 #[.agg E.toArray] W1 fun e w' => OutE W1 W1.heap.size LB 0 e w') ∧
    (ok = true → ∀ (W1 : World) (q : Option Addr) (M c : Nat), M = LB.length → BytesAt W1 (.slice q M c) LB → Calls Try.prog 34 #[.slice q M c] W1 fun e w' => ∃ es : List Value, e = .returned (.tuple #[.agg es.toArray, .int .i64 0]) ∧ es.length = 98 ∧ (∀ v ∈ es, v.oneCell' = true) ∧ Below W1.heap.size W1 w' ∧
      (∀ W2, Below w'.heap.size w' W2 → Below w.heap.size w W2 → Calls Try.prog 41 #[.agg es.toArray, .agg E.toArray] W2 fun e w'' => e = .returned (.bool true) ∧ Below W2.heap.size W2 w''))
theorem one_of (ks : List Bk) (hraw : ∀ k ∈ ks, BkRaw k) (hs : ∀ k ∈ ks, Small k) (p : Option Addr) (N cap : Nat) (hN : N = ks.length) (w : World) (h : BksLo w w.heap.size (.slice p N cap) ks) (i : Nat) (hi : i < N) : One w p i := by
  obtain ⟨p', c', ess, he, hel, hmem, hrow⟩ := h
  simp at he
  obtain ⟨rfl, -, rfl⟩ := he
  have hlb : i < ks.length := by omega
  obtain ⟨b, o, rfl, hbl, hc⟩ := hrow (by rintro rfl; simp at hlb)
  obtain ⟨k, hki⟩ : ∃ k, ks[i]? = some k := ⟨_, List.getElem?_eq_getElem hlb⟩
  obtain ⟨E, hEi⟩ : ∃ E, ess[i]? = some E := ⟨_, List.getElem?_eq_getElem (by omega)⟩
  obtain ⟨hEl, q, c, hEd, hS⟩ := hmem i k E hki hEi
  have hm := List.mem_of_getElem? hki
  have hf := bk_fit (hraw k hm) (hs k hm)
  have h26 : ∀ W1, Below w.heap.size w W1 → Calls Try.prog 26 #[.agg E.toArray] W1 fun e w' => OutE W1 W1.heap.size (blkLst k) (blkErr k) e w' := fun W1 hb => by
    rw [hEd]; exact block26 k hf.1 q _ c rfl hf.2 W1 ((hS.below hb).mono hb.size)
  refine ⟨k.ok, b, o, E, blkLst k, rfl, hEl, fun w' hb j u hu => ?_, fun hok W1 hb => ?_, fun hok W1 hb => ?_, fun hok W1 q1 M c1 hM hB => ?_⟩
  · have h9 := hc i E hEi j u hu
    rw [hb.cell (p := ⟨b, o + i * 98 + j, none⟩) (lt_of_cell h9)]; exact h9
  · have e : blkErr k = 4 := by unfold blkErr; rw [hok]; rfl
    rw [← e]; exact h26 W1 hb
  · have e : blkErr k = 0 := by unfold blkErr; rw [hok]; rfl
    rw [← e]; exact h26 W1 hb
  · have e : blkLst k = k.bytes := by unfold blkLst; rw [if_pos hok]
    rw [e] at hM hB
    refine (reads34 k hok hf.1 (hraw k hm) q1 M c1 W1 hM hB).mono ?_
    rintro e w' ⟨q2, c2, es, hes, rfl, hel2, hone, hS2, hb⟩
    refine ⟨es, rfl, hel2, hone, hb, fun W2 hb2 hbw => ?_⟩
    rw [hes, hEd]
    exact sameBlock41 k hf.1 q2 q _ c2 c W2 rfl (hS2.below hb2) (hS.below hbw).at hf.2
set_option maxRecDepth 100000 in
set_option maxHeartbeats 16000000 in
theorem back_walk (ks : List Bk) (hraw : ∀ k ∈ ks, BkRaw k) (p : Option Addr) (N cap : Nat) (hN : N = ks.length) (hNb : N ≤ 1000000000000000) (r : Rs) (hr : RsRaw r) (n : Nat) (hn : n < 18446744073709551616) (z : Int) (h0 : -9223372036854775808 ≤ z) (h1 : z < 9223372036854775808) (w : World) (h : BksLo w w.heap.size (.slice p N cap) ks) :
    Calls Try.prog 6 #[.slice p N cap, .agg r.cells.toArray, .agg #[.int .u64 (n : Int), .int .i64 z]] w fun e w' => OutT w e w' := by
  have h9 : Hid (∀ W, Calls Try.prog 9 #[] W fun e w' => e = .returned (.bool true) ∧ Below W.heap.size W w') := awake_any
  have h19 : Hid (∀ W, Below w.heap.size w W → Calls Try.prog 19 #[.slice p N cap] W fun e w' => FewOk ks N W e w') := fun W hW => few19 ks hraw p N cap W hN ((h.below hW).mono hW.size) hNb
  have h43 : Hid (N ≤ 2000 → (∀ k ∈ ks, Small k) → ∀ W, Below w.heap.size w W → Calls Try.prog 43 #[.slice p N cap] W fun e w' => Wro ks W e w') := fun h2 hs W hW => wro43 ks (fun k hk => bk_fit (hraw k hk) (hs k hk)) p N cap W hN ((h.below hW).mono hW.size) (by omega)
  have h38 : Hid (N ≤ 2000 → (∀ k ∈ ks, Small k) → bksOk ks = true → ∀ (W : World) (q : Option Addr) (L c : Nat), L = (bksB ks).length → L ≤ 262144 → BytesAt W (.slice q L c) (bksB ks) → Calls Try.prog 38 #[.slice q L c] W fun e w' => ∃ (q : Option Addr) (c : Nat), e = .returned (.tuple #[.slice q N c, .int .i64 0]) ∧ Below W.heap.size W w' ∧
      (∀ W2, Below w'.heap.size w' W2 → Below w.heap.size w W2 → Calls Try.prog 42 #[.slice q N c, .slice p N cap] W2 fun e w'' => e = .returned (.bool true) ∧ Below W2.heap.size W2 w'')) := fun h2 hs hok W q L c hL hLb hB => by
    refine (reads38 ks hok hraw (fun k hk => (bk_fit (hraw k hk) (hs k hk)).1) q L c W hL hLb hB).mono ?_
    rintro e w' ⟨q1, N1, c1, hN1, rfl, hA, hb⟩
    obtain rfl : N = N1 := by omega
    exact ⟨q1, c1, rfl, hb, fun W2 hb2 hbw => sameBlocks42 ks (fun k hk => bk_fit (hraw k hk) (hs k hk)) q1 p N c1 cap W2 hN (hA.below hb2) (h.at.below hbw) (by omega)⟩
  have HEL : Hid (N ≤ 2000 → (∀ k ∈ ks, Small k) → ∀ i, i < N → One w p i) := fun _ hs i hi => one_of ks hraw hs p N cap hN w h i hi
  obtain ⟨F, hF⟩ : ∃ F, F = r.cells := ⟨_, rfl⟩
  have hFl : F.length = 67 := by rw [hF]; exact rsC_length _ _ _ _ _ (by rw [List.length_map]; exact hr.la.1) (by rw [List.length_map]; exact hr.tg.1)
  have hi41 : (Try.prog.info? 41).map (·.size) = some F.length := by rw [hFl]; exact size41
  have hzl : z41.length = F.length := by rw [hFl]; exact rsC_length _ _ _ _ _ (zB_length 32) (zB_length 32)
  have honeF : Hid (∀ v ∈ F, v.oneCell' = true) := by
    rw [hF]; intro v hv
    simp only [Rs.cells, rsC, List.mem_cons, List.mem_append] at hv
    rcases hv with rfl | rfl | rfl | hv | hv
    · rfl
    · rfl
    · rfl
    · exact mapBy_one _ v hv
    · exact mapBy_one _ v hv
  have heq : ∀ W, (binOp .neq 41 (.agg F.toArray) (.agg F.toArray)).run Try.prog W = .ok (.bool false) W := fun W => by rw [hF]; exact run_neq_R W r hr.la.1 hr.tg.1
  have h28 : Hid (∀ W1, Calls Try.prog 28 #[.agg F.toArray] W1 fun e w' => OutE W1 W1.heap.size (resL r) (resE r) e w') := fun W1 => by rw [hF]; exact result28 r hr.m hr.la.1 hr.tg.1 W1
  have h36 : Hid (r.ok = true → ∀ (W1 : World) (q : Option Addr) (M c : Nat), M = (resL r).length → BytesAt W1 (.slice q M c) (resL r) → Calls Try.prog 36 #[.slice q M c] W1 fun e w' => e = .returned (.tuple #[.agg F.toArray, .int .i64 0]) ∧ Below W1.heap.size W1 w') := fun hok W1 q M c hM hB => by
    have e : resL r = r.bytes := by unfold resL; rw [if_pos hok]
    rw [e] at hM hB
    rw [hF]; exact reads36 r hr hok q M c W1 hM hB
  have hRE : Hid (resE r = if r.ok = true then 0 else 4) := rfl
  have h10 : Hid (∀ W1, Calls Try.prog 10 #[.slice none 0 0, .int .u64 (n : Int)] W1 fun e w' => OutE W1 W1.heap.size (numL [] n) (numE n) e w') := fun W1 => number_any n hn [] none 0 0 W1 rfl (bytes_nil W1) (by omega)
  have h12 : Hid (∀ W1, Calls Try.prog 12 #[.slice none 0 0, .int .i64 z] W1 fun e w' => OutE W1 W1.heap.size (sgnL [] z) (sgnE z) e w') := fun W1 => signed_any z h0 h1 [] none 0 0 W1 rfl (bytes_nil W1) (by omega)
  have h15 : Hid (n < 9223372036854775808 → ∀ (W1 : World) (q : Option Addr) (M c : Nat), M = (numL [] n).length → BytesAt W1 (.slice q M c) (numL [] n) → Calls Try.prog 15 #[.slice q M c] W1 fun e w' => ∃ p c, e = .returned (.tuple #[.int .u64 (n : Int), .slice p 0 c, .int .i64 0]) ∧ Below W1.heap.size W1 w') := fun hlt W1 q M c hM hB => by
    have e : numL [] n = sev n := by unfold numL; rw [if_pos hlt, List.nil_append]
    rw [e] at hM hB
    exact reads15 n hlt q M c W1 hM hB
  have h17 : Hid (-9223372036854775808 < z → ∀ (W1 : World) (q : Option Addr) (M c : Nat), M = (sgnL [] z).length → BytesAt W1 (.slice q M c) (sgnL [] z) → Calls Try.prog 17 #[.slice q M c] W1 fun e w' => ∃ p c, e = .returned (.tuple #[.int .i64 z, .slice p 0 c, .int .i64 0]) ∧ Below W1.heap.size W1 w') := fun hlt W1 q M c hM hB => by
    have e : sgnL [] z = sev (fold z) := by unfold sgnL; rw [if_neg (by omega), List.nil_append]
    rw [e] at hM hB
    exact reads17 z hlt h1 q M c W1 hM hB
  have hNE : Hid (numE n = if n < 9223372036854775808 then 0 else 2) := rfl
  have hSE : Hid (sgnE z = if z = -9223372036854775808 then 2 else 0) := rfl
  obtain ⟨W, hW⟩ : ∃ W, W = (w.alloc (.cells F.toArray 41)).alloc (.cells #[.int .u64 (n : Int), .int .i64 z] 69) := ⟨_, rfl⟩
  obtain ⟨B, hBB⟩ : ∃ B, B = w.heap.size := ⟨_, rfl⟩
  have HBW : Hid (Below w.heap.size w W) := by rw [hW]; exact ((Below.refl _ _).alloc (Nat.le_refl _) _).alloc (by simp) _
  have HQ : Hid (Blk W B F 41) := by rw [hW, hBB]; exact (Blk.new _ _ _).alloc _
  have HQ2 : Hid (Blk W (B + 1) [.int .u64 (n : Int), .int .i64 z] 69) := by rw [hW]; exact Blk.new' _ [.int .u64 (n : Int), .int .i64 z] _ _ (by simp [hBB])
  have hn' : Hid ((n : Int) < 18446744073709551616) := by show (n : Int) < _; omega
  have HZ : Hid (-9223372036854775808 ≤ z ∧ z < 9223372036854775808) := ⟨h0, h1⟩
  unfold OutT
  unfold FewOk at h19
  unfold OutE at h28 h10 h12
  rw [← hF]
  generalize resL r = RL at *
  generalize resE r = RE at *
  generalize numL [] n = NL at *
  generalize numE n = NE at *
  generalize sgnL [] z = SL at *
  generalize sgnE z = SE at *
  clear hF hraw hFl hN hr h hn h0 h1 hNb
  go_enter Try.func6, Try.ntmps6
  go_upto_region 1 with fail
  rw [← hW, ← hBB]
  clear hW hBB
  have d0 := HQ2.out.cell 0
  have d1 := HQ2.out.cell 1
  rw [show ([Value.int .u64 (n : Int), .int .i64 z])[0]? = some (.int .u64 (n : Int)) from rfl] at d0
  rw [show ([Value.int .u64 (n : Int), .int .i64 z])[1]? = some (.int .i64 z) from rfl] at d1
  go_quiet (fail)
  have HBQ : Hid (Below w.heap.size w (W.drewN nq)) := Below.drewN HBW.out nq
  have HQQ : Hid (Blk (W.drewN nq) B F 41) := HQ.out.below (Below.drewN (Below.refl _ _) nq) HQ.out.lt
  clear d0 d1 HQ HQ2 HBW
  generalize W.drewN nq = V at *
  go_wp2_with fail
  refine Calls.mono (h9.out _) ?_
  rintro e w1 ⟨rfl, hb1⟩
  have HQ := hid (HQQ.out.below hb1 HQQ.out.lt)
  have HB1 := hid (HBQ.out.trans (hb1.mono HBQ.out.size))
  clear hb1 HQQ HBQ
  go_wp2_with fail
  refine Calls.mono (h19.out _ HB1.out) ?_
  rintro e wx ⟨b, rfl, hw, hfew⟩
  subst hw
  have HFEW := hid hfew
  clear hfew h19
  rcases b with _ | _
  · go_wp2_with fail
    refine Calls.mono (h9.out _) ?_
    rintro e w3 ⟨rfl, hb3⟩
    have HB3 := hid (HB1.out.trans (hb3.mono HB1.out.size))
    clear hb3
    go_wp2
    go_ret
    exact ⟨rfl, HB3.out⟩
  obtain ⟨hN2, hsm⟩ := HFEW.out rfl
  have H43 := hid (h43.out hN2 hsm)
  have H38 := hid (h38.out hN2 hsm)
  have HEL2 := hid (HEL.out hN2 hsm)
  clear hsm HFEW h43 h38 HEL h9
  go_wp2_with fail
  refine Calls.mono (H43.out _ HB1.out) ?_
  rintro e w3 ⟨pb, L, c, E, rfl, hb3, hE⟩
  have HE := hid hE
  have HBX := hid hb3
  have HB3 := hid (HB1.out.trans (hb3.mono HB1.out.size))
  have HX0 : Hid (Below wx.heap.size wx w3) := hb3
  clear hE hb3 H43 HBX
  have HRF : Hid (∀ U, Below wx.heap.size wx U → U.rangeAt B 0 F) := fun U hb => (HQ.out.below hb HQ.out.lt).range
  have HBU : Hid (∀ U, Below wx.heap.size wx U → Below w.heap.size w U) := fun U hb => HB1.out.trans (hb.mono HB1.out.size)
  clear HQ
  have h3 : (E = 0 ∧ L ≤ 262144) ∨ (E = 0 ∧ ¬ L ≤ 262144) ∨ E ≠ 0 := by
    by_cases hE0 : E = 0
    · by_cases hL1 : L ≤ 262144
      · exact .inl ⟨hE0, hL1⟩
      · exact .inr (.inl ⟨hE0, hL1⟩)
    · exact .inr (.inr hE0)
  rcases h3 with ⟨hE0, hL1⟩ | ⟨hE0, hL1⟩ | hE0
  case' inl =>
    subst hE0
    obtain ⟨hok, hL, hbb⟩ := HE.out rfl
    have hk38 := hid (H38.out hok)
    have HL := hid hL
    have HBB := hid hbb
    have e3 : (L : Int) ≤ 262144 := by omega
    clear hok hL hbb HE H38
    go_wp2_with fail
    refine Calls.mono (hk38.out _ _ _ _ HL.out hL1 HBB.out) ?_
    rintro e w4 ⟨q4, c4, rfl, hb4, h42⟩
    have HB4 := hid (HB3.out.trans (hb4.mono HB3.out.size))
    have HX4 := hid (HX0.out.trans (hb4.mono HX0.out.size))
    have H42 := hid (h42 w4 (Below.refl _ _) HB4.out)
    clear hb4 h42
    go_wp2_with fail
    refine Calls.mono H42.out ?_
    rintro e U ⟨rfl, hb5⟩
    have HC : Hid (Below wx.heap.size wx U) := HX4.out.trans (hb5.mono HX4.out.size)
    clear hb5 H42 HX4 HB4 HL HBB hk38 e3 hL1 HB3 HX0
    go_upto_region 9 with fail
  case' inr.inl =>
    subst hE0
    have e3 : ((L : Int) ≤ 262144) = False := by simp; omega
    have HC := HX0
    clear HE H38 HX0 HB3
    generalize w3 = U at *
    go_upto_region 9 with fail
    clear e3 hL1
  case' inr.inr =>
    have hE1 : (E == 0) = false := by simp [hE0]
    have HC := HX0
    clear HE H38 HX0 HB3
    generalize w3 = U at *
    go_upto_region 9 with fail
    clear hE1 hE0
  all_goals (
    go_wp2_with fail
    go_loopw [13] (fun iv wr => ∃ i : Nat, iv = .int .i64 (i : Nat) ∧ i ≤ N ∧ Hid (Below wx.heap.size wx wr)) (fun iv _ => N - (intOf iv).toNat)
    case atStart => exact ⟨0, rfl, by omega, HC⟩
    case round =>
      clear HC
      obtain ⟨i, rfl, hi, HBI⟩ := hrel
      by_cases hlt : i < N
      · obtain ⟨ok, b, o, D, LB, rfl, hDl, hrg, k26f, k26, k34⟩ := HEL2.out i hlt
        have e2 : (i : Int) < (N : Int) := by omega
        have e3 : (0 : Int) ≤ (i : Int) := by omega
        have hi39 : Hid ((Try.prog.info? 39).map (·.size) = some D.length) := by rw [hDl]; exact hid size39
        have HRG := hid hrg
        have K26f := hid k26f
        have K26 := hid k26
        have K34 := hid k34
        have hr3 := HRG.out wr (HBU.out wr HBI.out)
        clear hrg k26f k26 k34 hDl
        go_wp2_with (first
          | ((with_reducible refine wpL_load 39 b (o + i * 98) D _ ?_ hr3 Try.underlying39 ?_ hi39.out ?_); (rfl); (rfl); (simp only [Act.put, List.setIfInBounds_toArray, List.set_cons_zero, List.set_cons_succ])))
        rcases ok with _ | _
        · refine Calls.mono (K26f.out rfl _ (HBU.out wr HBI.out)) ?_
          rintro e v4 ⟨pa, Na, ca, -, rfl, -, hba⟩
          have HB4 := hid (HBI.out.trans (hba.mono HBI.out.size))
          clear hba hr3
          go_wp2_with fail
          go_roundw
          case rel => exact ⟨i + 1, by go_num, by omega, HB4⟩
          case measure => simp [intOf]; omega
        · refine Calls.mono (K26.out rfl _ (HBU.out wr HBI.out)) ?_
          rintro e v4 ⟨pa, Na, ca, hNa, rfl, hoa, hba⟩
          have HB4 := hid (HBI.out.trans (hba.mono HBI.out.size))
          have HOa := hid hoa.bytes
          have HNa := hid hNa
          clear hoa hba hNa hr3
          go_wp2_with fail
          refine Calls.mono (K34.out trivial _ pa Na ca HNa.out HOa.out) ?_
          rintro e v5 ⟨es, rfl, hel, hone, hb5, h41⟩
          have HB5 := hid (HB4.out.trans (hb5.mono HB4.out.size))
          have hi2 : (Try.prog.info? 39).map (·.size) = some es.length := by rw [hel]; exact size39
          have hz39 : z39.length = es.length := by rw [hel]; exact bkL_length _ _ _ _ _ (zB_length 32) (zB_length 32) (zB_length 32)
          have honeE := hid hone
          have H41 := hid h41
          clear hb5 h41 hone hel HOa HNa
          go_upto_region 15 with (first
            | ((with_reducible refine wpL_new 39 z39 es zv39 hz39 ?_ ?_ hi2 honeE.out ?_); (rfl); (rfl); (simp only [Act.put, List.setIfInBounds_toArray, List.set_cons_zero, List.set_cons_succ])))
          obtain ⟨X, hX⟩ : ∃ X, X = v5.alloc (.cells es.toArray 39) := ⟨_, rfl⟩
          obtain ⟨G, hG⟩ : ∃ G, G = v5.heap.size := ⟨_, rfl⟩
          have HGB : Hid (Blk X G es 39) := by rw [hX, hG]; exact Blk.new v5 es 39
          have HX5 : Hid (Below v5.heap.size v5 X) := by rw [hX]; exact (Below.refl _ _).alloc (Nat.le_refl _) _
          have HXB := hid (HB5.out.trans (HX5.out.mono HB5.out.size))
          rw [← hX, ← hG]
          clear hX hG
          have HR1 : Hid (∀ x, (∃ y : Nx X, x = y.w) → x.rangeAt G 0 es) := by
            rintro _ ⟨y, rfl⟩
            exact (HGB.out.below y.h HGB.out.lt).range
          have HR2 : Hid (∀ x, (∃ y : Nx X, x = y.w) → x.rangeAt b (o + i * 98) D) := by
            rintro _ ⟨y, rfl⟩
            exact HRG.out y.w (HBU.out _ (HXB.out.trans (y.h.mono HXB.out.size)))
          have HBD : Hid (Below X.heap.size X X.drew) := Below.drewN (Below.refl _ _) 1
          have HBX : Hid (Below wx.heap.size wx X.drew) := Below.drewN HXB.out 1
          have H41b := hid (H41.out X.drew (Below.drewN HX5.out 1) (HBU.out _ HBX.out))
          refine wp_region_calm (S := fun w' => ∃ x : Nx X, w' = x.w) [(0, false), (1, false), (2, false), (3, false), (4, false), (5, false), (6, false), (7, false), (8, true), (9, false), (10, false)] (by kernel_rfl) (by kernel_rfl) rfl (by kernel_rfl) ⟨⟨X.drew, HBD.out⟩, rfl⟩ ?_
          obtain ⟨Y, hY⟩ : ∃ Y, Y = X.drew := ⟨_, rfl⟩
          rw [← hY] at HBD HBX H41b ⊢
          clear hY H41
          iterate 3 (refine plan_take rfl (fun K hK => ?_); go_simp; refine ⟨_, fun _ => rfl, hK _ ?_⟩; clear hK K)
          refine plan_takeY (v := .agg es.toArray) rfl (by rfl) (yieldsIf_load_mid (by rfl) 39 _ rfl G 0 (by go_simp) es _ HR1.out Try.underlying39 rfl hi2) ?_
          simp only [Act.put, List.setIfInBounds_toArray]
          try simp only [List.set_cons_zero, List.set_cons_succ]
          iterate 3 (refine plan_take rfl (fun K hK => ?_); go_simp; refine ⟨_, fun _ => rfl, hK _ ?_⟩; clear hK K)
          refine plan_takeY (v := .agg D.toArray) rfl (by rfl) (yieldsIf_load_mid (by rfl) 39 _ rfl b (o + i * 98) (by go_simp) D _ HR2.out Try.underlying39 rfl hi39.out) ?_
          simp only [Act.put, List.setIfInBounds_toArray]
          try simp only [List.set_cons_zero, List.set_cons_succ]
          refine plan_turn rfl (fun K' hK => ?_)
          go_simp
          refine Calls.mono H41b.out ?_
          rintro _ v6 ⟨rfl, hb6⟩
          have HB6 := hid (HBD.out.trans (hb6.mono HBD.out.size))
          have HW6 := hid (HBX.out.trans (hb6.mono HBX.out.size))
          refine hK _ _ ⟨⟨v6, HB6.out⟩, rfl⟩ ?_
          clear hK K' hb6
          iterate 2 (refine plan_take rfl (fun K hK => ?_); go_simp; refine ⟨_, fun _ => rfl, hK _ ?_⟩; clear hK K)
          refine plan_done ⟨rfl, ?_⟩
          go_wp2
          go_roundw
          case rel => exact ⟨i + 1, by go_num, by omega, HW6⟩
          case measure => simp [intOf]; omega
      · obtain rfl : i = N := by omega
        have e2 : ((i : Int) < (i : Int)) = False := by simp
        have hrF := HRF.out wr HBI.out
        clear HEL2
        go_wp2_with (first
          | ((with_reducible refine wpL_load 41 B 0 F _ ?_ hrF Try.underlying41 ?_ hi41 ?_); (rfl); (rfl); (simp only [Act.put, List.setIfInBounds_toArray, List.set_cons_zero, List.set_cons_succ])))
        refine Calls.mono (h28.out _) ?_
        rintro e v4 ⟨pc, Nc, cc, hNc, rfl, hoc, hbc⟩
        have HB4 := hid (HBI.out.trans (hbc.mono HBI.out.size))
        have HOc := hid hoc.bytes
        have HNc := hid hNc
        clear hoc hbc hNc hrF
        rcases hrok : r.ok with _ | _
        case' false =>
          have hRE4 : RE = 4 := by have h := hRE.out; rw [hrok] at h; exact h
          subst hRE4
          have HC2 := HB4
          clear HB4 HOc HNc h28 h36 hRE
          generalize v4 = U2 at *
          go_upto_region 22 with fail
        case' true =>
          have hRE0 : RE = 0 := by have h := hRE.out; rw [hrok] at h; exact h
          subst hRE0
          have K36 := hid (h36.out hrok)
          clear h28 h36 hRE
          go_wp2_with fail
          refine Calls.mono (K36.out _ pc Nc cc HNc.out HOc.out) ?_
          rintro e v5 ⟨rfl, hb5⟩
          have HB5 := hid (HB4.out.trans (hb5.mono HB4.out.size))
          have hbr := (Blk.new v5 F 41).range
          have HC2 := hid (HB5.out.alloc HB5.out.size (.cells F.toArray 41))
          have hrF5 := HRF.out _ HC2.out
          clear hb5 HB4 HOc HNc K36
          go_upto_region 22 with (first
            | ((with_reducible refine wpL_new 41 z41 F zv41 hzl ?_ ?_ hi41 honeF.out ?_); (rfl); (rfl); (simp only [Act.put, List.setIfInBounds_toArray, List.set_cons_zero, List.set_cons_succ]))
            | ((with_reducible refine wpL_loadG 41 v5.heap.size 0 F _ ?_ ?_ hbr Try.underlying41 ?_ hi41 ?_); (first | rfl | go_simp); (rfl); (rfl); (simp only [Act.put, List.setIfInBounds_toArray, List.set_cons_zero, List.set_cons_succ]))
            | ((with_reducible refine wpL_loadG 41 B 0 F _ ?_ ?_ hrF5 Try.underlying41 ?_ hi41 ?_); (first | rfl | go_simp); (rfl); (rfl); (simp only [Act.put, List.setIfInBounds_toArray, List.set_cons_zero, List.set_cons_succ])))
          clear hbr hrF5 HB5
          generalize v5.alloc (.cells F.toArray 41) = U2 at *
        all_goals (
          clear hrok
          go_wp2_with fail
          refine Calls.mono (h10.out _) ?_
          rintro e v6 ⟨pd, Nd, cd, hNd, rfl, hod, hbd⟩
          have HB6 := hid (HC2.out.trans (hbd.mono HC2.out.size))
          have HOd := hid hod.bytes
          have HNd := hid hNd
          clear hod hbd hNd h10 HC2
          go_wp2_with fail
          refine Calls.mono (h12.out _) ?_
          rintro e v7 ⟨pe, Ne, ce, hNe, rfl, hoe, hbe⟩
          have HB7 := hid (HB6.out.trans (hbe.mono HB6.out.size))
          have HOe := hid hoe.bytes
          have HOd7 := hid (HOd.out.below hbe)
          have HNe := hid hNe
          clear hoe hbe hNe h12 HOd HB6
          rcases Nat.lt_or_ge n 9223372036854775808 with hn63 | hn63
          case' inl =>
            have hNE0 : NE = 0 := by have h := hNE.out; rw [if_pos hn63] at h; exact h
            subst hNE0
            have K15 := hid (h15.out hn63)
            clear h15 hNE hn63
            go_wp2_with fail
            refine Calls.mono (K15.out _ pd Nd cd HNd.out HOd7.out) ?_
            rintro e U3 ⟨p8, c8, rfl, hb8⟩
            have HC3 := hid (HB7.out.trans (hb8.mono HB7.out.size))
            have HO3 := hid (HOe.out.below hb8)
            clear hb8 HB7 HOe HOd7 HNd K15
            go_upto_region 28 with fail
          case' inr =>
            have hNE2 : NE = 2 := by have h := hNE.out; rw [if_neg (by omega)] at h; exact h
            subst hNE2
            have HC3 := HB7
            have HO3 := HOe
            clear HB7 HOe HOd7 HNd h15 hNE hn63
            generalize v7 = U3 at *
            go_upto_region 28 with fail
          all_goals (
            by_cases hz : z = -9223372036854775808
            · have hSE2 : SE = 2 := by have h := hSE.out; rw [if_pos hz] at h; exact h
              subst hSE2
              clear h17 hSE hz
              go_wp2_with fail
              go_ret
              exact ⟨rfl, HBU.out _ HC3.out⟩
            · have hSE0 : SE = 0 := by have h := hSE.out; rw [if_neg hz] at h; exact h
              subst hSE0
              have K17 := hid (h17.out (by have := HZ.out; omega))
              clear hz h17 hSE
              go_wp2_with fail
              refine Calls.mono (K17.out _ pe Ne ce HNe.out HO3.out) ?_
              rintro e v9 ⟨p9, c9, rfl, hb9⟩
              go_wp2
              go_ret
              exact ⟨rfl, HBU.out _ (HC3.out.trans (hb9.mono HC3.out.size))⟩)))
end Go.Proofs.Ytpiflgbcbhnmpaa
