/- The law EconStats, and EconDigs, walked. -/
import Derived.Test.YtjkcmedmojidgaaAwake
namespace Go.Proofs.Ytjkcmedmojidgaa
open Go.RowKit
set_option maxRecDepth 20000 in
set_option maxHeartbeats 4000000 in
theorem stats_walk (k ld0 ore : Int) (ho : I64 ore) (w : World) : Calls Try.prog 3 #[.int .i64 k, .int .i64 ld0, .int .i64 ore] w fun e w' => Out w (.bool true) e w' := by
  have h8 : Hid (∀ W, Calls Try.prog 8 #[] W fun e w' => e = .returned (.bool true) ∧ Below W.heap.size W w') := awake_any
  have h9 : Hid (∀ W, Calls Try.prog 9 #[.int .i64 k] W fun e w' => e = .returned (.tuple #[statV k, .int .i64 (statE k)]) ∧ Below W.heap.size W w') := stat_any k
  have h10 : Hid (∀ W, Calls Try.prog 10 #[.int .i64 k] W fun e w' => e = .returned (.tuple #[statV k, .int .i64 (statE k)]) ∧ Below W.heap.size W w') := refStat_any k
  have h11 : Hid (∀ W, Calls Try.prog 11 #[.int .i64 ld0, .int .i64 ore] W fun e w' => e = .returned (digV ld0 ore) ∧ w' = W) := dig_any ld0 ore ho
  have h12 : Hid (∀ W, Calls Try.prog 12 #[.int .i64 ld0, .int .i64 ore] W fun e w' => e = .returned (digV ld0 ore) ∧ w' = W) := refDig_any ld0 ore ho
  unfold Out statV digV at *
  generalize cost k = U0 at *
  generalize turns k = U1 at *
  generalize st k 60 10 25 12 = U2 at *
  generalize st k 4 1 6 2 = U3 at *
  generalize st k 3 1 2 1 = U4 at *
  generalize st k 5 3 4 6 = U5 at *
  generalize statE k = X at *
  generalize ld ld0 + dug ld0 ore = Y at *
  generalize mx2 ore 0 - dug ld0 ore = Z at *
  clear ho
  go_enter Try.func3, Try.ntmps3
  go_wp2_with fail
  refine Calls.mono (h8.out _) ?_
  rintro e w1 ⟨rfl, hb⟩
  have HB1 := hid hb
  clear hb
  go_wp2_with fail
  refine Calls.mono (h9.out _) ?_
  rintro e w2 ⟨rfl, hb⟩
  have HB2 := hid (HB1.out.trans (hb.mono HB1.out.size))
  clear hb
  go_upto_region 4 with fail
  obtain ⟨w3, hw3⟩ : ∃ w3, w3 = w2.alloc (.cells #[.int .i64 U0, .int .i64 U1, .int .i64 U2, .int .i64 U3, .int .i64 U4, .int .i64 U5] 24) := ⟨_, rfl⟩
  obtain ⟨A, hA⟩ : ∃ A, A = w2.heap.size := ⟨_, rfl⟩
  have HA3 : Hid (Blk w3 A [.int .i64 U0, .int .i64 U1, .int .i64 U2, .int .i64 U3, .int .i64 U4, .int .i64 U5] 24) := by rw [hw3]; exact Blk.new' _ _ _ _ hA
  have HB3 : Hid (Below w.heap.size w w3) := by rw [hw3]; exact HB2.out.alloc HB2.out.size _
  rw [← hw3, ← hA]
  clear hw3 hA
  go_wp2_with fail
  refine Calls.mono (h10.out _) ?_
  rintro e w4 ⟨rfl, hb⟩
  have HB4 := hid (HB3.out.trans (hb.mono HB3.out.size))
  have HA4 := hid (HA3.out.below hb HA3.out.lt)
  clear hb
  go_upto_region 5 with fail
  obtain ⟨w5, hw5⟩ : ∃ w5, w5 = w4.alloc (.cells #[.int .i64 U0, .int .i64 U1, .int .i64 U2, .int .i64 U3, .int .i64 U4, .int .i64 U5] 28) := ⟨_, rfl⟩
  obtain ⟨B, hB⟩ : ∃ B, B = w4.heap.size := ⟨_, rfl⟩
  have HA5 : Hid (Blk w5 A [.int .i64 U0, .int .i64 U1, .int .i64 U2, .int .i64 U3, .int .i64 U4, .int .i64 U5] 24) := by rw [hw5]; exact HA4.out.alloc _
  have HBB : Hid (Blk w5 B [.int .i64 U0, .int .i64 U1, .int .i64 U2, .int .i64 U3, .int .i64 U4, .int .i64 U5] 28) := by rw [hw5]; exact Blk.new' _ _ _ _ hB
  have HB5 : Hid (Below w.heap.size w w5) := by rw [hw5]; exact HB4.out.alloc HB4.out.size _
  rw [← hw5, ← hB]
  clear hw5 hB
  go_wp2_with fail
  refine Calls.mono (h11.out _) ?_
  rintro e w6 ⟨rfl, hw⟩
  replace hw := hw.symm
  subst hw
  go_wp2_with fail
  refine Calls.mono (h12.out _) ?_
  rintro e w7 ⟨rfl, hw⟩
  replace hw := hw.symm
  subst hw
  have a0 := HA5.out.cell 0
  have a1 := HA5.out.cell 1
  have a2 := HA5.out.cell 2
  have a3 := HA5.out.cell 3
  have a4 := HA5.out.cell 4
  have a5 := HA5.out.cell 5
  have b0 := HBB.out.cell 0
  have b1 := HBB.out.cell 1
  have b2 := HBB.out.cell 2
  have b3 := HBB.out.cell 3
  have b4 := HBB.out.cell 4
  have b5 := HBB.out.cell 5
  simp only [List.getElem?_cons_zero, List.getElem?_cons_succ] at a0 a1 a2 a3 a4 a5 b0 b1 b2 b3 b4 b5
  go_wp2
  go_ret
  exact ⟨rfl, HB5.out⟩
set_option maxRecDepth 20000 in
set_option maxHeartbeats 4000000 in
theorem digs_walk (a b : Int) (ha : 0 ≤ a ∧ a ≤ 65535) (hb : 0 ≤ b ∧ b ≤ 65535) (w : World) : Calls Try.prog 6 #[.int .u16 a, .int .u16 b] w fun e w' => Out w (.bool true) e w' := by
  have h8 : Hid (∀ W, Calls Try.prog 8 #[] W fun e w' => e = .returned (.bool true) ∧ Below W.heap.size W w') := awake_any
  have h11 : Hid (∀ (k o : Int) (_ : I64 o) W, Calls Try.prog 11 #[.int .i64 k, .int .i64 o] W fun e w' => e = .returned (digV k o) ∧ w' = W) := dig_any
  unfold Out
  obtain ⟨ha0, ha1⟩ := ha
  obtain ⟨hb0, hb1⟩ := hb
  have ht : a.tmod 11 = a % 11 := Int.tmod_eq_emod_of_nonneg ha0
  have hL : 0 ≤ a % 11 ∧ a % 11 ≤ 10 := by omega
  go_enter Try.func6, Try.ntmps6
  go_wp2_with fail
  refine Calls.mono (h8.out _) ?_
  rintro e w1 ⟨rfl, hb⟩
  have HB1 := hid hb
  clear hb
  have HD : Hid (∀ l o : Int, 0 ≤ l → l ≤ 10 → 0 ≤ o → o ≤ 65535 → ∃ A B : Int, digV l o = .tuple #[.int .i64 A, .int .i64 B] ∧ A - l = o - B ∧ l ≤ A ∧ A - l ≤ 5 ∧ A ≤ 10 ∧ 0 ≤ B ∧ (A = l → l = 10 ∨ o = 0) ∧ (A = 10 ∨ B = 0 ∨ A = l + 5)) := fun l o h1 h2 h3 h4 => by
    refine ⟨_, _, rfl, ?_⟩
    have e : ld l = l := by unfold ld mn2 mx2; omega
    have e2 : mx2 o 0 = o := by unfold mx2; omega
    have e3 : dug l o = min (min 5 o) (10 - l) := by unfold dug mn3; rw [e, e2]
    rw [e, e2]
    generalize dug l o = D at *
    omega
  go_upto_region 4 with fail
  go_wp2_with fail
  go_loopw [5, 6, 7] (fun lv ov iv wr => ∃ (l o : Int) (i : Nat), lv = .int .i64 l ∧ ov = .int .i64 o ∧ iv = .int .i64 (i : Int) ∧ 0 ≤ l ∧ l ≤ 10 ∧ 0 ≤ o ∧ o ≤ 65535 ∧ i ≤ 4 ∧ Hid (l = 10 ∨ o = 0 ∨ (i ≤ 1 ∧ 5 * (i : Int) ≤ l)) ∧ Hid (Below w.heap.size w wr)) (fun _ _ iv _ => 4 - (intOf iv).toNat)
  case atStart => exact ⟨a % 11, b, 0, rfl, rfl, rfl, hL.1, hL.2, hb0, hb1, by omega, Or.inr (Or.inr ⟨by omega, by simpa using hL.1⟩), HB1⟩
  case round =>
    clear HB1 hL hb0 hb1 ha0 ha1 ht
    obtain ⟨l, o, i, rfl, rfl, rfl, hl0, hl1, ho0, ho1, hi, HR, HB⟩ := hrel
    by_cases hlt : i < 4
    · have hl' : (i : Int) < 4 := by omega
      obtain ⟨A, B, hd, hq, q1, q2, q3, q4, q5, q6⟩ := HD.out l o hl0 hl1 ho0 ho1
      have HC := hid (h11.out l o (by unfold I64; omega))
      rw [hd] at HC
      have HN : Hid (A = 10 ∨ B = 0 ∨ (i + 1 ≤ 1 ∧ 5 * ((i : Int) + 1) ≤ A)) := by
        have := HR.out
        unfold Hid
        omega
      have HB' : Hid (B ≤ 65535) := by unfold Hid; omega
      clear hd HR HD h11
      have g1 : (A < l) = False := by simp; omega
      have g2 : (5 < A - l) = False := by simp; omega
      have g2' : (5 < o - B) = False := by simp; omega
      have g3 : (10 < A) = False := by simp; omega
      have g4 : (B < 0) = False := by simp; omega
      by_cases hz : A = l
      · subst hz
        have hBo : B = o := by omega
        subst hBo
        have hz' := q5 rfl
        clear q5 q6 hq
        rcases hz' with hz' | hz'
        · subst hz'
          go_wp2_with fail
          refine Calls.mono (HC.out _) ?_
          rintro e w2 ⟨rfl, hw⟩
          replace hw := hw.symm
          subst hw
          go_wp2
          go_roundw
          case rel => exact ⟨10, B, i + 1, rfl, rfl, by simp, by omega, by omega, by omega, by omega, by omega, (by have := HN.out; exact hid (by omega)), HB⟩
          case measure => simp [intOf]; omega
        · subst hz'
          have g5 : (A < 10) = True ∨ (A < 10) = False := by
            by_cases h : A < 10
            · exact Or.inl (by simp [h])
            · exact Or.inr (by simp; omega)
          rcases g5 with g5 | g5
          · go_wp2_with fail
            refine Calls.mono (HC.out _) ?_
            rintro e w2 ⟨rfl, hw⟩
            replace hw := hw.symm
            subst hw
            go_wp2
            go_roundw
            case rel => exact ⟨A, 0, i + 1, rfl, rfl, by simp, by omega, by omega, by omega, by omega, by omega, (by have := HN.out; exact hid (by omega)), HB⟩
            case measure => simp [intOf]; omega
          · go_wp2_with fail
            refine Calls.mono (HC.out _) ?_
            rintro e w2 ⟨rfl, hw⟩
            replace hw := hw.symm
            subst hw
            go_wp2
            go_roundw
            case rel => exact ⟨A, 0, i + 1, rfl, rfl, by simp, by omega, by omega, by omega, by omega, by omega, (by have := HN.out; exact hid (by omega)), HB⟩
            case measure => simp [intOf]; omega
      · have g6 : (A == l) = false := by simpa using hz
        clear q5 q6
        go_wp2_with fail
        refine Calls.mono (HC.out _) ?_
        rintro e w2 ⟨rfl, hw⟩
        replace hw := hw.symm
        subst hw
        go_wp2
        go_roundw
        case rel => exact ⟨A, B, i + 1, rfl, rfl, by simp, by omega, by omega, by omega, HB'.out, by omega, (by have := HN.out; exact hid (by omega)), HB⟩
        case measure => simp [intOf]; omega
    · obtain rfl : i = 4 := by omega
      have hz : l = 10 ∨ o = 0 := by have := HR.out; omega
      by_cases hz1 : l = 10
      · subst hz1
        go_wp2
        go_ret
        exact ⟨rfl, HB.out⟩
      · have g6 : (l == 10) = false := by simpa using hz1
        obtain rfl : o = 0 := by omega
        go_wp2
        go_ret
        exact ⟨rfl, HB.out⟩
end Go.Proofs.Ytjkcmedmojidgaa
