/- The law of two sources of one seed. -/
import Derived.Test.YtlnbhgpijdjpmaaBelowWalk
import Derived.Deep.RegionWith
import Derived.Deep.DeepCutAuto
namespace Go.Proofs.Ytlnbhgpijdjpmaa
open Go.RowKit
set_option maxHeartbeats 1000000 in
theorem alike_big (s : Int) (p : Option Addr) (M cap : Nat) (w : World) (h : 300 < M) : Calls Try.prog 7 #[.int .u64 s, .slice p M cap] w fun e w' => OutT w e w' := by
  have h8 : Hid (∀ W, Calls Try.prog 8 #[] W fun e w' => e = .returned (.bool true) ∧ Below W.heap.size W w') := awake_any
  have hM : (300 : Int) < (M : Int) := by omega
  go_enter Try.func7, Try.ntmps7
  go_wp2_with fail
  refine Calls.mono (h8.out _) ?_
  rintro e w1 ⟨rfl, hb1⟩
  go_wp2_with fail
  refine Calls.mono (h8.out _) ?_
  rintro e w2 ⟨rfl, hb2⟩
  go_wp2
  go_ret
  exact ⟨rfl, hb1.trans (hb2.mono hb1.size)⟩
/-- Two sources, in blocks a and b, with the seeds t and u; what lay there ahead of the call is as it was. -/
structure Two (w W : World) (a b t u : Nat) : Prop where
  one : Src W a t
  other : Src W b u
  below : Below w.heap.size w W
  ga : w.heap.size ≤ a
  gb : w.heap.size ≤ b
  ne : a ≠ b
theorem Two.first {w W W' : World} {a b t u t' : Nat} (h : Two w W a b t u) (hs : Src W' a t') (ho : Only a W W') : Two w W' a b t' u :=
  ⟨hs, ho.src h.other h.ne.symm, ho.below h.below h.ga h.below.size, h.ga, h.gb, h.ne⟩
theorem Two.second {w W W' : World} {a b t u u' : Nat} (h : Two w W a b t u) (hs : Src W' b u') (ho : Only b W W') : Two w W' a b t u' :=
  ⟨ho.src h.one h.ne, hs, ho.below h.below h.gb h.below.size, h.ga, h.gb, h.ne⟩
theorem Two.third {w W W' : World} {a b c t u : Nat} (h : Two w W a b t u) (hc : W.heap.size ≤ c) (ho : Only c W W') : Two w W' a b t u :=
  ⟨ho.src h.one (by have := h.one.lt; omega), ho.src h.other (by have := h.other.lt; omega), ho.below h.below (Nat.le_trans h.below.size hc) h.below.size, h.ga, h.gb, h.ne⟩
theorem Two.drew {w W : World} {a b t u : Nat} (h : Two w W a b t u) : Two w W.drew a b t u := ⟨h.one, h.other, h.below.drew, h.ga, h.gb, h.ne⟩
theorem Only.alloc (c : Nat) (w : World) (o : Obj) : Only c w (w.alloc o) :=
  ⟨rfl, rfl, rfl, by simp, fun k _ hk => Below.heap_alloc _ _ _ hk⟩
theorem two_new {w w1 w2 w3 : World} {s : Nat} (h : Below w.heap.size w w1) (h2 : w2 = w1.alloc (.cells #[.int .u64 (s : Int)] 41)) (h3 : w3 = w2.alloc (.cells #[.int .u64 (s : Int)] 41)) : Two w w3 w1.heap.size w2.heap.size s s := by
  have hz1 := h.size
  have e1 : w2.heap.size = w1.heap.size + 1 := by rw [h2]; simp
  have b2 : Below w.heap.size w w2 := by rw [h2]; exact h.alloc hz1 _
  have b3 : Below w.heap.size w w3 := by rw [h3]; exact b2.alloc b2.size _
  have s2 : Src w2 w1.heap.size s := by rw [h2]; exact Src.new w1 s
  refine ⟨?_, ?_, b3, by omega, by omega, by omega⟩
  · rw [h3]; exact Blk.alloc s2 _
  · rw [h3]; exact Src.new w2 s
/-- A third one, in block c. -/
structure Three (w W : World) (a b c t u v : Nat) : Prop where
  two : Two w W a b t u
  src : Src W c v
  gc : w.heap.size ≤ c
  na : a ≠ c
  nb : b ≠ c
theorem three_new {w W W' : World} {a b t u v : Nat} (h : Two w W a b t u) (h' : W' = W.alloc (.cells #[.int .u64 (v : Int)] 41)) : Three w W' a b W.heap.size t u v := by
  subst h'
  have l1 := h.one.lt
  have l2 := h.other.lt
  exact ⟨h.third (Nat.le_refl _) (Only.alloc _ _ _), Src.new W v, h.below.size, by omega, by omega⟩
theorem Three.first {w W W' : World} {a b c t u v t' : Nat} (h : Three w W a b c t u v) (hs : Src W' a t') (ho : Only a W W') : Three w W' a b c t' u v :=
  ⟨h.two.first hs ho, ho.src h.src h.na.symm, h.gc, h.na, h.nb⟩
theorem Three.second {w W W' : World} {a b c t u v t' : Nat} (h : Three w W a b c t u v) (hs : Src W' b t') (ho : Only b W W') : Three w W' a b c t t' v :=
  ⟨h.two.second hs ho, ho.src h.src h.nb.symm, h.gc, h.na, h.nb⟩
theorem Three.third {w W W' : World} {a b c t u v t' : Nat} (h : Three w W a b c t u v) (hs : Src W' c t') (ho : Only c W W') : Three w W' a b c t u t' :=
  ⟨⟨ho.src h.two.one h.na, ho.src h.two.other h.nb, ho.below h.two.below h.gc h.two.below.size, h.two.ga, h.two.gb, h.two.ne⟩, hs, h.gc, h.na, h.nb⟩
set_option maxHeartbeats 2000000 in
theorem alike_walk (s : Nat) (hs : s < 18446744073709551616) (zs : List Int) (hz : ∀ z ∈ zs, 0 ≤ z ∧ z < 18446744073709551616) (p : Option Addr) (M cap : Nat) (w : World) (hM : M = zs.length) (hI : IntsAt .u64 w (.slice p M cap) zs) (h : M ≤ 300) : Calls Try.prog 7 #[.int .u64 (s : Int), .slice p M cap] w fun e w' => OutT w e w' := by
  have h8 : Hid (∀ W, Calls Try.prog 8 #[] W fun e w' => e = .returned (.bool true) ∧ Below W.heap.size W w') := awake_any
  have hM1 : (M : Int) ≤ 300 := by omega
  have h11 : Hid (∀ (s : Nat) W, Calls Try.prog 11 #[.int .u64 (s : Int)] W fun e w' => e = .returned (P W.heap.size) ∧ w' = W.alloc (.cells #[.int .u64 (s : Int)] 41)) := fun s W => new_any s W
  have HZ := hid hz
  have HI := hid hI
  have HM := hid (fun (_ : Nat) => hM)
  clear hz hI hM
  go_enter Try.func7, Try.ntmps7
  go_wp2_with fail
  refine Calls.mono (h8.out _) ?_
  rintro e w1 ⟨rfl, hb1⟩
  have HB1 := hid hb1
  clear hb1
  go_wp2_with fail
  refine Calls.mono (h11.out s _) ?_
  rintro e w2 ⟨rfl, hw2⟩
  have HW2 := hid (fun (_ : Nat) => hw2)
  clear hw2
  go_wp2_with fail
  refine Calls.mono (h11.out s _) ?_
  rintro e w3 ⟨rfl, hw3⟩
  obtain ⟨qa, hqa⟩ : ∃ q, w1.heap.size = q := ⟨_, rfl⟩
  obtain ⟨qb, hqb⟩ : ∃ q, w2.heap.size = q := ⟨_, rfl⟩
  have HT : Hid (Two w w3 qa qb s s) := by subst hqa hqb; exact two_new HB1.out (HW2.out 0) hw3
  rw [hqa, hqb]
  clear HW2 hw3 HB1 hqa hqb h8
  go_wp2_with fail
  go_loopw [7] (fun iv wr => ∃ t i : Nat, t < 18446744073709551616 ∧ i ≤ M ∧ iv = .int .i64 (i : Int) ∧ Hid (Two w wr qa qb t t)) (fun iv _ => M - (intOf iv).toNat)
  case atStart => exact ⟨s, 0, hs, by omega, rfl, HT⟩
  case round =>
    clear HT
    obtain ⟨t, i, ht, hi, rfl, HT⟩ := hrel
    by_cases hlt : i < M
    · have e0 : (i : Int) < (M : Int) := by omega
      have e00 : (0 : Int) ≤ (i : Int) := by omega
      have hex : ∃ sb so n : Nat, p = some ⟨sb, so, none⟩ ∧ n < 18446744073709551616 ∧ sb < w.heap.size ∧ w.cell? ⟨sb, so + i, none⟩ = some (.int .u64 (n : Int)) := by
        obtain ⟨p', c', he, hc, hn, hh⟩ := HI.out
        have hne : zs ≠ [] := by intro h0; have := HM.out 0; rw [h0] at this; simp at this; omega
        obtain ⟨sb, so, hp, hcell⟩ := hh hne
        simp at he
        have hl : i < zs.length := by have := HM.out 0; omega
        have h1 := hcell i hl
        have hz := HZ.out (zs.getD i 0) (by rw [show zs.getD i 0 = zs[i] by simp [hl]]; exact List.getElem_mem _)
        refine ⟨sb, so, (zs.getD i 0).toNat, he.1.trans hp, by omega, lt_of_cell h1, ?_⟩
        rw [h1, Int.toNat_of_nonneg hz.1]
      obtain ⟨sb, so, n, rfl, hn, hsb, hcw⟩ := hex
      have HC : Hid (∀ W a b t u, Two w W a b t u → W.cell? ⟨sb, so + i, none⟩ = some (.int .u64 (n : Int))) := fun W a b t u h => by rw [h.below.cell (p := ⟨sb, so + i, none⟩) hsb]; exact hcw
      clear hcw
      have hc := HC.out _ _ _ _ _ HT.out
      have h15a : Hid (∀ W u, Two w W qa qb t u → Calls Try.prog 15 #[P qa, .int .u64 (n : Int)] W fun e w' => e = .returned (.int .u64 (bN n t : Int)) ∧ Two w w' qa qb (bS n t) u) := fun W u h => (below_any qa t n ht hn W h.one).mono (by
        rintro e w' ⟨rfl, hs, ho⟩
        exact ⟨rfl, h.first hs ho⟩)
      have h15b : Hid (∀ W u, Two w W qa qb u t → Calls Try.prog 15 #[P qb, .int .u64 (n : Int)] W fun e w' => e = .returned (.int .u64 (bN n t : Int)) ∧ Two w w' qa qb u (bS n t)) := fun W u h => (below_any qb t n ht hn W h.other).mono (by
        rintro e w' ⟨rfl, hs, ho⟩
        exact ⟨rfl, h.second hs ho⟩)
      have hu : bS n t < 18446744073709551616 := bS_lt ht
      generalize bN n t = x at *
      generalize bS n t = u at *
      go_upto_region 7 with fail
      go_cut [39] (fun c W => c = .bool false ∧ Hid (Two w W qa qb u u))
      case first =>
        go_region_with (first
          | (go_at_call 15; with_reducible refine Calls.mono (h15a.out _ _ HT.out.drew) ?_; rintro e wa ⟨rfl, hta⟩; have hca := HC.out _ _ _ _ _ hta)
          | (go_at_call 15; with_reducible refine Calls.mono (h15b.out _ _ hta) ?_; rintro e wb ⟨rfl, htb⟩; have hcb := HC.out _ _ _ _ _ htb))
        all_goals
          go_wp2_with fail
          go_meet
          exact ⟨rfl, htb⟩
      case rest =>
        obtain ⟨rfl, HT2⟩ := hcut
        have h14 : Hid (∀ W b a, Src W b a → Calls Try.prog 14 #[P b] W fun e w' => e = .returned (.int .u64 (a : Int)) ∧ w' = W) := fun W b a h => seed_any b a W h
        go_wp2_with fail
        refine Calls.mono (h14.out _ _ _ HT2.out.one) ?_
        rintro e wx ⟨rfl, hw⟩
        subst hw
        go_wp2_with fail
        refine Calls.mono (h11.out u _) ?_
        rintro e w5 ⟨rfl, hw5⟩
        have HN : Hid (∃ q, q = wx.heap.size ∧ Three w w5 qa qb q u u u) := ⟨_, rfl, three_new HT2.out hw5⟩
        clear hw5
        obtain ⟨qc, hqc, h3⟩ := HN.out
        have H3 := hid h3
        rw [← hqc]
        clear hqc h3 HN HT2 HT HC h15a h15b h11 hc
        have h13a : Hid (∀ W t v, Three w W qa qb qc u t v → Calls Try.prog 13 #[P qa] W fun e w' => e = .returned (.int .u64 (scat (nxt u) : Int)) ∧ Three w w' qa qb qc (nxt u) t v) := fun W t v h => (next_any qa u W h.two.one).mono (by
          rintro e w' ⟨rfl, hs, ho⟩
          exact ⟨rfl, h.first hs ho⟩)
        have h13b : Hid (∀ W t v, Three w W qa qb qc t u v → Calls Try.prog 13 #[P qb] W fun e w' => e = .returned (.int .u64 (scat (nxt u) : Int)) ∧ Three w w' qa qb qc t (nxt u) v) := fun W t v h => (next_any qb u W h.two.other).mono (by
          rintro e w' ⟨rfl, hs, ho⟩
          exact ⟨rfl, h.second hs ho⟩)
        have h13c : Hid (∀ W t v, Three w W qa qb qc t v u → Calls Try.prog 13 #[P qc] W fun e w' => e = .returned (.int .u64 (scat (nxt u) : Int)) ∧ Three w w' qa qb qc t v (nxt u)) := fun W t v h => (next_any qc u W h.src).mono (by
          rintro e w' ⟨rfl, hs, ho⟩
          exact ⟨rfl, h.third hs ho⟩)
        have hy := scat_lt (nxt u)
        have hv := nxt_lt u
        generalize scat (nxt u) = y at *
        generalize nxt u = v at *
        go_wp2_with fail
        refine Calls.mono (h13c.out _ _ _ H3.out) ?_
        rintro e w6 ⟨rfl, h6⟩
        have H6 := hid h6
        clear h6
        go_wp2_with fail
        refine Calls.mono (h13a.out _ _ _ H6.out) ?_
        rintro e w7 ⟨rfl, h7⟩
        have H7 := hid h7
        clear h7
        go_wp2_with fail
        refine Calls.mono (h13b.out _ _ _ H7.out) ?_
        rintro e w8 ⟨rfl, h8⟩
        have H8 := hid h8
        have hsa := hid h8.two.one
        have hsb := hid h8.two.other
        have hsc := hid h8.src
        clear h8 H7 H6 h13a h13b h13c
        have ha := hid (h14.out _ _ _ hsa.out)
        have hb := hid (h14.out _ _ _ hsb.out)
        have hcc := hid (h14.out _ _ _ hsc.out)
        have fin : Hid (∃ t j : Nat, t < 18446744073709551616 ∧ j ≤ M ∧ Value.int .i64 ((i : Int) + 1) = .int .i64 (j : Int) ∧ Hid (Two w w8 qa qb t t)) := ⟨v, i + 1, hv, by omega, by simp, H8.out.two⟩
        rcases Nat.eq_zero_or_pos y with rfl | h0
        · go_wp2_with (go_at_call 14; (first | (with_reducible refine Calls.mono (hb.out) ?_) | (with_reducible refine Calls.mono (ha.out) ?_) | (with_reducible refine Calls.mono (hcc.out) ?_)); rintro e wx ⟨rfl, hw⟩; subst hw)
          go_roundw
          case rel => exact fin.out
          case measure => simp [intOf]; omega
        · have hy0 : ((y : Int) == 0) = false := by simp; omega
          go_wp2_with (go_at_call 14; (first | (with_reducible refine Calls.mono (hb.out) ?_) | (with_reducible refine Calls.mono (ha.out) ?_) | (with_reducible refine Calls.mono (hcc.out) ?_)); rintro e wx ⟨rfl, hw⟩; subst hw)
          go_roundw
          case rel => exact fin.out
          case measure => simp [intOf]; omega
    · obtain rfl : i = M := by omega
      go_wp2
      go_ret
      exact ⟨rfl, HT.out.below⟩
end Go.Proofs.Ytlnbhgpijdjpmaa
