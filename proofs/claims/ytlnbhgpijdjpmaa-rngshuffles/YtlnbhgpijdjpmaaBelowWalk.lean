/- The law of numbers below limits. -/
import Derived.Test.YtlnbhgpijdjpmaaInts
import Derived.Test.YtlnbhgpijdjpmaaNextWalk
namespace Go.Proofs.Ytlnbhgpijdjpmaa
open Go.RowKit
set_option maxHeartbeats 1000000 in
theorem below_big (s : Int) (p : Option Addr) (M cap : Nat) (w : World) (h : 300 < M) : Calls Try.prog 4 #[.int .u64 s, .slice p M cap] w fun e w' => OutT w e w' := by
  have h8 : Hid (∀ W, Calls Try.prog 8 #[] W fun e w' => e = .returned (.bool true) ∧ Below W.heap.size W w') := awake_any
  have hM : (300 : Int) < (M : Int) := by omega
  go_enter Try.func4, Try.ntmps4
  go_wp2_with fail
  refine Calls.mono (h8.out _) ?_
  rintro e w1 ⟨rfl, hb1⟩
  go_wp2_with fail
  refine Calls.mono (h8.out _) ?_
  rintro e w2 ⟨rfl, hb2⟩
  go_wp2
  go_ret
  exact ⟨rfl, hb1.trans (hb2.mono hb1.size)⟩
set_option maxHeartbeats 1000000 in
theorem below_walk (s : Nat) (hs : s < 18446744073709551616) (zs : List Int) (hz : ∀ z ∈ zs, 0 ≤ z ∧ z < 18446744073709551616) (p : Option Addr) (M cap : Nat) (w : World) (hM : M = zs.length) (hI : IntsAt .u64 w (.slice p M cap) zs) (h : M ≤ 300) : Calls Try.prog 4 #[.int .u64 (s : Int), .slice p M cap] w fun e w' => OutT w e w' := by
  have h8 : Hid (∀ W, Calls Try.prog 8 #[] W fun e w' => e = .returned (.bool true) ∧ Below W.heap.size W w') := awake_any
  have hM1 : (M : Int) ≤ 300 := by omega
  have h11 : Hid (∀ W, Calls Try.prog 11 #[.int .u64 (s : Int)] W fun e w' => e = .returned (P W.heap.size) ∧ w' = W.alloc (.cells #[.int .u64 (s : Int)] 41)) := new_any s
  have h15 : Hid (∀ (W : World) (b a n : Nat), Src W b a → a < 18446744073709551616 → n < 18446744073709551616 → Calls Try.prog 15 #[P b, .int .u64 (n : Int)] W fun e w' => OutS W b (bS n a) (.int .u64 (bN n a : Int)) e w') := fun W b a n h ha hn => below_any b a n ha hn W h
  have h16 : Hid (∀ (W : World) (a n : Nat), a < 18446744073709551616 → n < 18446744073709551616 → Calls Try.prog 16 #[.int .u64 ((a : Nat) : Int), .int .u64 ((n : Nat) : Int)] W fun e w' => Bx n a e ∧ w' = W) := fun W a n ha hn => refBelow_any a n ha hn W
  have h14 : Hid (∀ W b a, Src W b a → Calls Try.prog 14 #[P b] W fun e w' => e = .returned (.int .u64 (a : Int)) ∧ w' = W) := fun W b a h => seed_any b a W h
  have HZ := hid hz
  have HI := hid hI
  have HM := hid (fun (_ : Nat) => hM)
  clear hz hI hM
  go_enter Try.func4, Try.ntmps4
  go_wp2_with fail
  refine Calls.mono (h8.out _) ?_
  rintro e w1 ⟨rfl, hb1⟩
  have HB1 := hid hb1
  clear hb1
  go_wp2_with fail
  refine Calls.mono (h11.out _) ?_
  rintro e w3 ⟨rfl, hw⟩
  obtain ⟨q, hq⟩ : ∃ q, w1.heap.size = q := ⟨_, rfl⟩
  have HS0 : Hid (Src w3 q s) := by subst hw; rw [← hq]; exact Src.new w1 s
  have HB0 : Hid (Below w.heap.size w w3) := by subst hw; exact HB1.out.alloc HB1.out.size _
  have HQ : Hid (w.heap.size ≤ q) := by rw [← hq]; exact HB1.out.size
  rw [hq]
  clear hw HB1 hq h11 h8
  go_wp2_with fail
  go_loopw [6, 7] (fun tv iv wr => ∃ t i : Nat, t < 18446744073709551616 ∧ i ≤ M ∧ tv = .int .u64 (t : Int) ∧ iv = .int .i64 (i : Int) ∧ Hid (Src wr q t) ∧ Hid (Below w.heap.size w wr)) (fun _ iv _ => M - (intOf iv).toNat)
  case atStart => exact ⟨s, 0, hs, by omega, rfl, rfl, HS0, HB0⟩
  case round =>
    obtain ⟨a, i, ha, hi, rfl, rfl, HS, HB⟩ := hrel
    by_cases hlt : i < M
    · have e0 : (i : Int) < (M : Int) := by omega
      have e00 : (0 : Int) ≤ (i : Int) := by omega
      have hex : ∃ sb so n : Nat, p = some ⟨sb, so, none⟩ ∧ n < 18446744073709551616 ∧ sb < w.heap.size ∧ w.cell? ⟨sb, so + i, none⟩ = some (.int .u64 (n : Int)) := by
        obtain ⟨p', c', he, hc, hn, hh⟩ := HI.out
        have hne : zs ≠ [] := by intro h0; have := HM.out 0; rw [h0] at this; simp at this; omega
        obtain ⟨sb, so, hp, hcell⟩ := hh hne
        simp at he
        have hl : i < zs.length := by have := HM.out 0; omega
        have h1 := hcell i hl
        have hz := HZ.out (zs.getD i 0) (by rw [show zs.getD i 0 = zs[i] by simp [hl]]; exact List.getElem_mem _)
        refine ⟨sb, so, (zs.getD i 0).toNat, he.1.trans hp, by omega, lt_of_cell h1, ?_⟩
        rw [h1, Int.toNat_of_nonneg hz.1]
      obtain ⟨sb, so, n, rfl, hn, hsb, hcw⟩ := hex
      have hc : wr.cell? ⟨sb, so + i, none⟩ = some (.int .u64 (n : Int)) := by rw [HB.out.cell (p := ⟨sb, so + i, none⟩) hsb]; exact hcw
      have HC := hid hcw
      clear hcw
      go_wp2_with fail
      refine Calls.mono (h15.out _ _ _ _ HS.out ha hn) ?_
      rintro e w5 ⟨rfl, hs5, ho5⟩
      have HS5 := hid hs5
      have HB5 := hid (ho5.below HB.out HQ.out HB.out.size)
      have hc5 : w5.cell? ⟨sb, so + i, none⟩ = some (.int .u64 (n : Int)) := by rw [HB5.out.cell (p := ⟨sb, so + i, none⟩) hsb]; exact HC.out
      clear hs5 ho5 hc HS HB
      go_wp2_with fail
      refine Calls.mono (h16.out _ _ _ ha hn) ?_
      rintro e wx ⟨he, hw⟩
      subst hw
      unfold Bx at he
      subst he
      have hx2 := bS_lt (n := n) ha
      have hx1 : Hid (0 < n → bN n a < n) := fun h => bN_lt h
      have hx3 : bN n a < 18446744073709551616 := by
        rcases Nat.eq_zero_or_pos n with h | h
        · rw [h]; unfold bN; simp
        · exact Nat.lt_trans (bN_lt h) hn
      generalize bS n a = u at *
      generalize bN n a = x at *
      rcases Nat.eq_zero_or_pos n with rfl | h0
      · go_wp2_with fail
        refine Calls.mono (h14.out _ _ _ HS5.out) ?_
        rintro e wx ⟨rfl, hw⟩
        subst hw
        go_wp2
        go_roundw
        case rel => exact ⟨u, i + 1, hx2, by omega, rfl, by simp, HS5, HB5⟩
        case measure => simp [intOf]; omega
      · have h01 : (0 : Int) < (n : Int) := by omega
        have h02 : (x : Int) < (n : Int) := by have := hx1.out h0; omega
        go_wp2_with fail
        refine Calls.mono (h14.out _ _ _ HS5.out) ?_
        rintro e wx ⟨rfl, hw⟩
        subst hw
        go_wp2
        go_roundw
        case rel => exact ⟨u, i + 1, hx2, by omega, rfl, by simp, HS5, HB5⟩
        case measure => simp [intOf]; omega
    · obtain rfl : i = M := by omega
      go_wp2
      go_ret
      exact ⟨rfl, HB.out⟩
end Go.Proofs.Ytlnbhgpijdjpmaa
