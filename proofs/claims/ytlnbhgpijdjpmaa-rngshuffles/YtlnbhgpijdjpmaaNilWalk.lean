/- The law of no source, and of the zero one. -/
import Derived.Test.YtlnbhgpijdjpmaaRow
import Derived.Test.YtlnbhgpijdjpmaaAlikeWalk
namespace Go.Proofs.Ytlnbhgpijdjpmaa
open Go.RowKit
set_option maxHeartbeats 1000000 in
theorem nil_big (s : Int) (p : Option Addr) (M cap : Nat) (w : World) (h : 1000 < M) : Calls Try.prog 6 #[.int .u64 s, .slice p M cap] w fun e w' => OutT w e w' := by
  have h8 : Hid (∀ W, Calls Try.prog 8 #[] W fun e w' => e = .returned (.bool true) ∧ Below W.heap.size W w') := awake_any
  have hM : (1000 : Int) < (M : Int) := by omega
  go_enter Try.func6, Try.ntmps6
  go_wp2_with fail
  refine Calls.mono (h8.out _) ?_
  rintro e w1 ⟨rfl, hb1⟩
  go_wp2_with fail
  refine Calls.mono (h8.out _) ?_
  rintro e w2 ⟨rfl, hb2⟩
  go_wp2
  go_ret
  exact ⟨rfl, hb1.trans (hb2.mono hb1.size)⟩
set_option maxHeartbeats 1000000 in
theorem nextNil_any (w : World) : Calls Try.prog 13 #[.pointer none] w fun e w' => e = .returned (.int .u64 0) ∧ w' = w := by
  go_enter Try.func13, Try.ntmps13
  go_wp2
  go_ret
  exact ⟨rfl, rfl⟩
set_option maxHeartbeats 1000000 in
theorem seedNil_any (w : World) : Calls Try.prog 14 #[.pointer none] w fun e w' => e = .returned (.int .u64 0) ∧ w' = w := by
  go_enter Try.func14, Try.ntmps14
  go_wp2
  go_ret
  exact ⟨rfl, rfl⟩
set_option maxHeartbeats 1000000 in
theorem belowNil_any (n : Int) (w : World) : Calls Try.prog 15 #[.pointer none, .int .u64 n] w fun e w' => e = .returned (.int .u64 0) ∧ w' = w := by
  go_enter Try.func15, Try.ntmps15
  go_wp2
  go_ret
  exact ⟨rfl, rfl⟩
/-- Cells of a list that was handed in, in a later world. -/
theorem IntsAt.at {k : IntKind} {w : World} {p : Option Addr} {M cap : Nat} {zs : List Int} (h : IntsAt k w (.slice p M cap) zs) (hM : M = zs.length) (hp : 0 < M) : ∃ sb so, p = some ⟨sb, so, none⟩ ∧ ∀ i, i < M → w.cell? ⟨sb, so + i, none⟩ = some (.int k (zs.getD i 0)) := by
  obtain ⟨p', c', he, hc, hn, hh⟩ := h
  obtain ⟨sb, so, hp', hcell⟩ := hh (by intro h0; rw [h0] at hM; simp at hM; omega)
  simp at he
  exact ⟨sb, so, he.1.trans hp', fun i hi => hcell i (by omega)⟩
set_option maxHeartbeats 2000000 in
theorem nil_walk (n : Nat) (hn : n < 18446744073709551616) (zs : List Int) (_ : ∀ z ∈ zs, -9223372036854775808 ≤ z ∧ z ≤ 9223372036854775807) (p : Option Addr) (M cap : Nat) (w : World) (hM : M = zs.length) (hI : IntsAt .i64 w (.slice p M cap) zs) (h : M ≤ 1000) : Calls Try.prog 6 #[.int .u64 (n : Int), .slice p M cap] w fun e w' => OutT w e w' := by
  have h8 : Hid (∀ W, Calls Try.prog 8 #[] W fun e w' => e = .returned (.bool true) ∧ Below W.heap.size W w') := awake_any
  have hM1 : (M : Int) ≤ 1000 := by omega
  have h11 : Hid (∀ W, Calls Try.prog 11 #[.int .u64 0] W fun e w' => e = .returned (P W.heap.size) ∧ w' = W.alloc (.cells #[.int .u64 0] 41)) := fun W => new_any 0 W
  have h13n := hid nextNil_any
  have h14n := hid seedNil_any
  have h15n := hid (belowNil_any (n : Int))
  have HI := hid hI
  have HM := hid (fun (_ : Nat) => hM)
  have h17 : Hid (∀ W, Below w.heap.size w W → Calls Try.prog 17 #[.pointer none, .slice p M cap] W fun e w' => OutC W M zs e w') := fun W hb => shuffleNil_any zs p M cap W hM (hI.below hb) h
  clear hI hM
  go_enter Try.func6, Try.ntmps6
  go_wp2_with fail
  refine Calls.mono (h8.out _) ?_
  rintro e w1 ⟨rfl, hb1⟩
  have HB1 := hid hb1
  clear hb1
  go_wp2_with fail
  refine Calls.mono (h17.out _ HB1.out) ?_
  rintro e w2 ⟨rfl, hr2, hb2⟩
  obtain ⟨g, hg⟩ : ∃ g, w1.heap.size = g := ⟨_, rfl⟩
  rw [hg] at hr2 ⊢
  have HB2 := hid (HB1.out.trans (hb2.mono HB1.out.size))
  have HR2 := hid hr2
  clear hb2 hr2 HB1 hg h8 h17
  go_wp2_with fail
  go_loopw [7] (fun iv wr => ∃ i : Nat, i ≤ M ∧ iv = .int .i64 (i : Int) ∧ Hid (RowB wr g zs) ∧ Hid (Below w.heap.size w wr)) (fun iv _ => M - (intOf iv).toNat)
  case atStart => exact ⟨0, by omega, rfl, HR2, HB2⟩
  case round =>
    clear HR2 HB2
    obtain ⟨i, hi, rfl, HR2, HB2⟩ := hrel
    by_cases hlt : i < M
    · have e0 : (i : Int) < (M : Int) := by omega
      have e00 : (0 : Int) ≤ (i : Int) := by omega
      obtain ⟨sb, so, rfl, hcell⟩ := HI.out.at (HM.out 0) (by omega)
      have hc1 : wr.cell? ⟨sb, so + i, none⟩ = some (.int .i64 (zs.getD i 0)) := by rw [HB2.out.cell (p := ⟨sb, so + i, none⟩) (lt_of_cell (hcell i hlt))]; exact hcell i hlt
      have hc2 := HR2.out.cell i (by have := HM.out 0; omega)
      clear hcell
      generalize zs.getD i 0 = z at *
      go_upto_region 8 with fail
      go_quiet (fail)
      all_goals go_wp2
      all_goals exact ⟨⟨i + 1, by omega, by simp, HR2, Below.drewN HB2.out _⟩, by simp [intOf]; omega⟩
    · obtain rfl : i = M := by omega
      go_wp2_with fail
      refine Calls.mono (h11.out _) ?_
      rintro e w4 ⟨rfl, hw4⟩
      obtain ⟨w3, hw3⟩ : ∃ w3, wr.alloc (.cells #[.int .u64 0] 41) = w3 := ⟨_, rfl⟩
      rw [hw3] at hw4 ⊢
      obtain ⟨qa, hqa⟩ : ∃ q, wr.heap.size = q := ⟨_, rfl⟩
      obtain ⟨qb, hqb⟩ : ∃ q, w3.heap.size = q := ⟨_, rfl⟩
      have HT : Hid (Two w w4 qa qb 0 0) := by subst hqa hqb; exact two_new (s := 0) HB2.out hw3.symm hw4
      rw [hqa, hqb]
      clear hw4 hw3 HR2 HB2 hqa hqb h11
      have h13a : Hid (∀ W u, Two w W qa qb 0 u → Calls Try.prog 13 #[P qa] W fun e w' => e = .returned (.int .u64 (scat (nxt 0) : Int)) ∧ Two w w' qa qb (nxt 0) u) := fun W u h => (next_any qa 0 W h.one).mono (by
        rintro e w' ⟨rfl, hs, ho⟩
        exact ⟨rfl, h.first hs ho⟩)
      have h13b : Hid (∀ W u, Two w W qa qb u 0 → Calls Try.prog 13 #[P qb] W fun e w' => e = .returned (.int .u64 (scat (nxt 0) : Int)) ∧ Two w w' qa qb u (nxt 0)) := fun W u h => (next_any qb 0 W h.other).mono (by
        rintro e w' ⟨rfl, hs, ho⟩
        exact ⟨rfl, h.second hs ho⟩)
      have hy := scat_lt (nxt 0)
      have hv := nxt_lt 0
      generalize scat (nxt 0) = y at *
      generalize nxt 0 = v at *
      have h15a : Hid (∀ W u, Two w W qa qb v u → Calls Try.prog 15 #[P qa, .int .u64 (n : Int)] W fun e w' => e = .returned (.int .u64 (bN n v : Int)) ∧ Two w w' qa qb (bS n v) u) := fun W u h => (below_any qa v n hv hn W h.one).mono (by
        rintro e w' ⟨rfl, hs, ho⟩
        exact ⟨rfl, h.first hs ho⟩)
      have h15b : Hid (∀ W u, Two w W qa qb u v → Calls Try.prog 15 #[P qb, .int .u64 (n : Int)] W fun e w' => e = .returned (.int .u64 (bN n v : Int)) ∧ Two w w' qa qb u (bS n v)) := fun W u h => (below_any qb v n hv hn W h.other).mono (by
        rintro e w' ⟨rfl, hs, ho⟩
        exact ⟨rfl, h.second hs ho⟩)
      have hu : bS n v < 18446744073709551616 := bS_lt hv
      generalize bN n v = x at *
      generalize bS n v = u at *
      have h14 : Hid (∀ W b a, Src W b a → Calls Try.prog 14 #[P b] W fun e w' => e = .returned (.int .u64 (a : Int)) ∧ w' = W) := fun W b a h => seed_any b a W h
      go_wp2_with fail
      refine Calls.mono (h13n.out _) ?_
      rintro e wx ⟨rfl, hw⟩
      subst hw
      go_wp2_with fail
      refine Calls.mono (h15n.out _) ?_
      rintro e wx ⟨rfl, hw⟩
      subst hw
      go_wp2_with fail
      refine Calls.mono (h14n.out _) ?_
      rintro e wx ⟨rfl, hw⟩
      subst hw
      go_wp2_with fail
      refine Calls.mono (h13a.out _ _ HT.out) ?_
      rintro e w5 ⟨rfl, h5⟩
      have H5 := hid h5
      clear h5 HT
      go_wp2_with fail
      refine Calls.mono (h13b.out _ _ H5.out) ?_
      rintro e w6 ⟨rfl, h6⟩
      have H6 := hid h6
      clear h6 H5
      go_wp2_with fail
      refine Calls.mono (h15a.out _ _ H6.out) ?_
      rintro e w7 ⟨rfl, h7⟩
      have H7 := hid h7
      clear h7 H6
      go_wp2_with fail
      refine Calls.mono (h15b.out _ _ H7.out) ?_
      rintro e w8 ⟨rfl, h8⟩
      have H8 := hid h8
      clear h8 H7
      go_wp2_with fail
      refine Calls.mono (h14.out _ _ _ H8.out.one) ?_
      rintro e wx ⟨rfl, hw⟩
      subst hw
      go_wp2_with fail
      refine Calls.mono (h14.out _ _ _ H8.out.other) ?_
      rintro e wx ⟨rfl, hw⟩
      subst hw
      go_wp2
      go_ret
      exact ⟨rfl, H8.out.below⟩
end Go.Proofs.Ytlnbhgpijdjpmaa
