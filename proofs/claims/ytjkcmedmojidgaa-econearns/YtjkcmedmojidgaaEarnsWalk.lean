/- The law EconEarns, walked. -/
import Derived.Test.YtjkcmedmojidgaaActsWalk
import Derived.Test.YtjkcmedmojidgaaKat
import Derived.Test.YtjkcmedmojidgaaFork
namespace Go.Proofs.Ytjkcmedmojidgaa
open Go.RowKit
theorem IntsAt.set {w : World} {v : Value} {xs : List Int} (h : IntsAt w v xs) {a : Addr} {u : Value} (hn : ∀ p n c, v = .slice (some p) n c → p.block ≠ a.block) : IntsAt (w.setCell a u) v xs := by
  obtain ⟨p, cap, rfl, hc, hz, h⟩ := h
  refine ⟨p, cap, rfl, hc, hz, fun hne => ?_⟩
  obtain ⟨sb, so, rfl, hcell⟩ := h hne
  refine ⟨sb, so, rfl, fun i hi => ?_⟩
  rw [World.cell?_setCell_other]
  · exact hcell i hi
  · intro e
    have := congrArg Addr.block e
    first | exact hn _ _ _ rfl this | exact hn _ _ _ rfl this.symm
theorem below_set1 {B : Nat} {a w : World} (h : Below B a w) (b j : Nat) (u : Value) (hb : B ≤ b) : Below B a (w.setCell ⟨b, j, none⟩ u) := h.trans ⟨rfl, rfl, rfl, by simp, fun k hk => Below.heap_setCell _ _ _ _ (by simp; omega)⟩
/-- What ore one has behind earning. -/
def ernO (o k : Int) : Int := if o < 100000 then mn2 (o + mn2 (mx2 k 0) 100000) 100000 else o
theorem earn_eq (p : Pl) (k : Int) : earn p k = ⟨ernO p.o k, p.b, p.q, p.l⟩ := by
  unfold earn ernO
  split <;> rfl
section
attribute [local go_sem ↓] run_mn2 run_mx2 run_mn3
set_option maxRecDepth 20000 in
set_option maxHeartbeats 16000000 in
theorem earns_walk (o : Int) (b : Bool) (q : List Int) (l : Int) (s : Option Addr) (M cap : Nat) (t : Option Addr) (L capL : Nat) (zs : List Int) (w : World) (hM : M = q.length) (hI : IntsAt w (.slice s M cap) q) (hL : L = zs.length) (hz : ∀ i, -32768 ≤ zs.getD i 0 ∧ zs.getD i 0 ≤ 32767) (hZ : KAt .i16 w (.slice t L capL) zs) :
    Calls Try.prog 7 #[.agg #[.int .i64 o, .bool b, .slice s M cap, .int .i64 l], .slice t L capL] w fun e w' => Out w (.bool true) e w' := by
  have h8 : Hid (∀ W, Calls Try.prog 8 #[] W fun e w' => e = .returned (.bool true) ∧ Below W.heap.size W w') := awake_any
  obtain ⟨W0, hW0⟩ : ∃ W0, W0 = w.alloc (.cells #[.int .i64 o, .bool b, .slice s M cap, .int .i64 l] 36) := ⟨_, rfl⟩
  obtain ⟨B0, hB0⟩ : ∃ B0, B0 = w.heap.size := ⟨_, rfl⟩
  have hp : Blk W0 B0 [.int .i64 o, .bool b, .slice s M cap, .int .i64 l] 36 := by rw [hW0]; exact Blk.new' _ _ _ _ hB0
  have hb0 : Below w.heap.size w W0 := by rw [hW0]; exact (Below.refl _ _).alloc (Nat.le_refl _) _
  unfold Out
  by_cases hbig : 1000 < M ∨ 1000 < L
  · have HP0 := hid hp
    have HB0 := hid hb0
    have hbig' : ((1000 : Int) < (M : Int)) = True ∨ (((1000 : Int) < (M : Int)) = False ∧ ((1000 : Int) < (L : Int)) = True) := by
      by_cases h : 1000 < M
      · exact Or.inl (by simp; omega)
      · exact Or.inr ⟨by simp; omega, by simp; omega⟩
    clear hp hb0 hM hbig hI hL hz hZ
    go_enter Try.func7, Try.ntmps7
    go_upto_region 1 with fail
    rw [← hW0, ← hB0]
    clear hW0 hB0
    go_wp2_with fail
    refine Calls.mono (h8.out _) ?_
    rintro e w1 ⟨rfl, hb⟩
    have HP1 := hid (HP0.out.below hb HP0.out.lt)
    have HB1 := hid (HB0.out.trans (hb.mono HB0.out.size))
    have c2 := HP1.out.cell 2
    simp only [List.getElem?_cons_zero, List.getElem?_cons_succ] at c2
    clear hb
    rcases hbig' with hbg | ⟨hbg, hbg'⟩
    case' inl => go_wp2_with fail
    case' inr => go_wp2_with fail
    all_goals (
      refine Calls.mono (h8.out _) ?_
      rintro e w2 ⟨rfl, hb⟩
      have HB2 := hid (HB1.out.trans (hb.mono HB1.out.size))
      clear hb
      go_wp2
      go_ret
      exact ⟨rfl, HB2.out⟩)
  have hb1 : ((1000 : Int) < (M : Int)) = False := by simp; omega
  have hb2 : ((1000 : Int) < (L : Int)) = False := by simp; omega
  have hM1 : M ≤ 1000000 := by omega
  have hL1 : (L : Int) ≤ 1000000 := by omega
  have HP0 := hid hp
  have HB0 := hid hb0
  have HII := hid (fun W' (h : Below w.heap.size w W') => hI.below h)
  have HZZ := hid (fun W' (h : Below w.heap.size w W') => hZ.below h)
  have HZ := hid hz
  have HM := hid (fun (_ : Nat) => hM)
  have HMS : Hid (M ≤ 1000000) := hid hM1
  have hr0 : -200000 ≤ Int.tmod o 200000 ∧ Int.tmod o 200000 ≤ 200000 := by
    rcases Int.le_total 0 o with h | h
    · rw [Int.tmod_eq_emod_of_nonneg h]; omega
    · have e : Int.tmod o 200000 = -(Int.tmod (-o) 200000) := by rw [Int.neg_tmod]; omega
      rw [e, Int.tmod_eq_emod_of_nonneg (by omega)]; omega
  have h21 : Hid (∀ z k W, IntsAt W (.slice s M cap) q → -200000 ≤ z ∧ z ≤ 200000 → Calls Try.prog 21 #[.agg #[.int .i64 z, .bool b, .slice s M cap, .int .i64 l], .int .i64 k] W fun e w' => ∃ s' c', e = .returned (.agg #[.int .i64 (ernO z k), .bool b, .slice s' M c', .int .i64 l]) ∧ Rw w' W.heap.size (.slice s' M c') q ∧ Below W.heap.size W w') := fun z k W h hz => by
    refine (earn_any z b q l k s cap M W h hM hM1 (by unfold I64; omega)).mono ?_
    rintro e w' ⟨s', n', c', hn, rfl, hi, hb⟩
    rw [earn_eq] at hn hi ⊢
    simp only at hn hi ⊢
    rw [← hM] at hn
    subst hn
    exact ⟨s', c', rfl, hi, hb⟩
  have h20 : Hid (∀ z W s' c', IntsAt W (.slice s M cap) q → IntsAt W (.slice s' M c') q → Calls Try.prog 20 #[.agg #[.int .i64 z, .bool b, .slice s M cap, .int .i64 l], .agg #[.int .i64 z, .bool b, .slice s' M c', .int .i64 l]] W fun e w' => e = .returned (.bool true) ∧ Below W.heap.size W w') := fun z W s' c' h h' => same_any z b q l s s' cap c' M W h h' hM1
  have HERN : Hid (∀ z k, -200000 ≤ z ∧ z ≤ 200000 → k ≤ 32767 → -200000 ≤ ernO z k ∧ ernO z k ≤ 200000 ∧ (0 < k → mx2 z (mn2 100000 (z + k)) = ernO z k) ∧ (k ≤ 0 → ernO z k = z)) := fun z k h h' => by
    unfold ernO mx2 mn2
    split <;> omega
  clear hp hb0 hM hbig hI hL hz hZ hM1
  go_enter Try.func7, Try.ntmps7
  go_upto_region 1 with fail
  rw [← hW0, ← hB0]
  have HEB := hid (fun (_ : Nat) => hB0)
  clear hW0 hB0
  go_wp2_with fail
  refine Calls.mono (h8.out _) ?_
  rintro e w1 ⟨rfl, hb⟩
  have HP1 := hid (HP0.out.below hb HP0.out.lt)
  have HB1 := hid (HB0.out.trans (hb.mono HB0.out.size))
  have c0 := HP1.out.cell 0
  have c2 := HP1.out.cell 2
  have f0 := HP1.out.frozen 0
  simp only [List.getElem?_cons_zero, List.getElem?_cons_succ] at c0 c2
  clear hb HP0 HB0
  go_upto_region 4 with fail
  obtain ⟨w2, hw2⟩ : ∃ x, x = w1.setCell ⟨B0, 0, none⟩ (.int .i64 (Int.tmod o 200000)) := ⟨_, rfl⟩
  have HP2 : Hid (Blk w2 B0 [.int .i64 (Int.tmod o 200000), .bool b, .slice s M cap, .int .i64 l] 36) := by rw [hw2]; exact HP1.out.set 0 _
  have HB2 : Hid (Below w.heap.size w w2) := by rw [hw2]; exact HB1.out.trans ⟨rfl, rfl, rfl, by simp, fun k hk => Below.heap_setCell _ _ _ _ (by have := HEB.out 0; simp; omega)⟩
  rw [← hw2]
  clear hw2 HP1 HB1 c0 c2 f0
  generalize hto : Int.tmod o 200000 = z0 at *
  go_wp2_with fail
  go_loopw [5] (fun iv wr => ∃ (i : Nat) (z : Int), iv = .int .i64 (i : Int) ∧ i ≤ L ∧ -200000 ≤ z ∧ z ≤ 200000 ∧ Hid (Blk wr B0 [.int .i64 z, .bool b, .slice s M cap, .int .i64 l] 36) ∧ Hid (Below w.heap.size w wr)) (fun iv _ => L - (intOf iv).toNat)
  case atStart => exact ⟨0, z0, rfl, by omega, hr0.1, hr0.2, HP2, HB2⟩
  case round =>
    clear HP2 HB2 hr0 hto
    obtain ⟨i, z, rfl, hi, hz0, hz1, HP, HB⟩ := hrel
    by_cases hlt : i < L
    · have hl' : (i : Int) < (L : Int) := by omega
      have hl0 : (0 : Int) ≤ (i : Int) := by omega
      obtain ⟨sb, so, rfl, hsb, hzc⟩ := (HZZ.out wr HB.out).pos i hlt
      have hk := HZ.out i
      have HKC : Hid (wr.cell? ⟨sb, so + i, none⟩ = some (.int .i16 (zs.getD i 0))) := hzc i hlt
      have HSB := hid hsb
      clear hzc hsb
      generalize zs.getD i 0 = k at *
      obtain ⟨hE0, hE1, hE2, hE3⟩ := HERN.out z k ⟨hz0, hz1⟩ hk.2
      have wk1 : IntKind.i64.wrap k = k := by rw [IntKind.wrap_i64]; omega
      have HE2 := hid hE2
      have HE3 := hid hE3
      have n0 : ∀ x : Nx wr, x.w.cell? ⟨B0, 0, none⟩ = some (.int .i64 z) := fun x => (HP.out.below x.h HP.out.lt).cell 0
      have n1 : ∀ x : Nx wr, x.w.cell? ⟨B0, 1, none⟩ = some (.bool b) := fun x => (HP.out.below x.h HP.out.lt).cell 1
      have n2 : ∀ x : Nx wr, x.w.cell? ⟨B0, 2, none⟩ = some (.slice s M cap) := fun x => (HP.out.below x.h HP.out.lt).cell 2
      have n3 : ∀ x : Nx wr, x.w.cell? ⟨B0, 3, none⟩ = some (.int .i64 l) := fun x => (HP.out.below x.h HP.out.lt).cell 3
      have n4 : ∀ x : Nx wr, x.w.cell? ⟨sb, so + i, none⟩ = some (.int .i16 k) := fun x => by rw [x.h.cell (p := ⟨sb, so + i, none⟩) HSB.out]; exact HKC.out
      clear hE2 hE3 HERN
      go_upto_region 7 with fail
      refine wp_region_fork (S := fun w' => ∃ x : Nx wr, w' = x.w) [0, 1, 2, 3, 4, 5] 6 7 [(8, true)] (by kernel_rfl) (by kernel_rfl) rfl (by kernel_rfl) ⟨⟨wr.drew, Below.drewN (Below.refl _ _) 1⟩, rfl⟩ ?_
      repeat (refine fork_take rfl (fun K hK => ?_); go_simp; refine ⟨_, fun _ => rfl, hK _ ?_⟩; clear hK K)
      clear n0 n1 n2 n3 n4
      have HD : Hid (Below wr.heap.size wr wr.drew) := Below.drewN (Below.refl _ _) 1
      obtain ⟨V0, hV0⟩ : ∃ x, x = wr.drew := ⟨_, rfl⟩
      rw [← hV0] at HD ⊢
      clear hV0
      refine fork_both ?A ?B
      case' A =>
        refine plan_turn rfl (fun K hK => ?_)
        go_simp
        refine Calls.mono (h21.out z k _ (HII.out _ (HB.out.trans (HD.out.mono HB.out.size))) ⟨hz0, hz1⟩) ?_
        rintro _ V1 ⟨s1, c1, rfl, hi1, hb1⟩
        have HD1 := hid (HD.out.trans (hb1.mono HD.out.size))
        have HI1 := hid hi1
        refine hK _ _ ⟨⟨V1, HD1.out⟩, rfl⟩ ?_
        clear hK K hi1 hb1
        refine plan_turn rfl (fun K hK => ?_)
        go_simp
        obtain ⟨V2, hV2⟩ : ∃ x, x = V1.alloc (.cells #[Value.int .i64 0, .bool false, .slice none 0 0, .int .i64 0] 36) := ⟨_, rfl⟩
        obtain ⟨A, hA⟩ : ∃ x, x = V1.heap.size := ⟨_, rfl⟩
        have HA2 : Hid (Blk V2 A [.int .i64 0, .bool false, .slice none 0 0, .int .i64 0] 36) := by rw [hV2]; exact Blk.new' _ _ _ _ hA
        have HI2 : Hid (IntsAt V2 (.slice s1 M c1) q) := by rw [hV2]; exact HI1.out.1.below ((Below.refl _ _).alloc (Nat.le_refl _) _)
        have HNE : Hid (∀ p n c, Value.slice s1 M c1 = .slice (some p) n c → p.block ≠ A) := fun p n c e => by have := (HI1.out.2 p n c e).2; omega
        have HD2 : Hid (Below wr.heap.size wr V2) := by rw [hV2]; exact HD1.out.alloc HD1.out.size _
        have HAW : Hid (wr.heap.size ≤ A) := by rw [hA]; exact HD1.out.size
        rw [← hV2, ← hA]
        refine hK _ _ ⟨⟨V2, HD2.out⟩, rfl⟩ ?_
        clear hK K hV2 hA HI1 HD1 HD
      case' B =>
        refine plan_turn rfl (fun K hK => ?_)
        go_simp
        obtain ⟨V1, hV1⟩ : ∃ x, x = V0.alloc (.cells #[Value.int .i64 0, .bool false, .slice none 0 0, .int .i64 0] 36) := ⟨_, rfl⟩
        obtain ⟨A, hA⟩ : ∃ x, x = V0.heap.size := ⟨_, rfl⟩
        have HA1 : Hid (Blk V1 A [.int .i64 0, .bool false, .slice none 0 0, .int .i64 0] 36) := by rw [hV1]; exact Blk.new' _ _ _ _ hA
        have HD1 : Hid (Below wr.heap.size wr V1) := by rw [hV1]; exact HD.out.alloc HD.out.size _
        have HAW : Hid (wr.heap.size ≤ A) := by rw [hA]; exact HD.out.size
        have HSZ : Hid (V1.heap.size = A + 1) := by rw [hV1, hA]; exact hid (by simp)
        rw [← hV1, ← hA]
        refine hK _ _ ⟨⟨V1, HD1.out⟩, rfl⟩ ?_
        clear hK K hV1 hA HD
        refine plan_turn rfl (fun K hK => ?_)
        go_simp
        refine Calls.mono (h21.out z k _ (HII.out _ (HB.out.trans (HD1.out.mono HB.out.size))) ⟨hz0, hz1⟩) ?_
        rintro _ V2 ⟨s1, c1, rfl, hi1, hb1⟩
        have HD2 := hid (HD1.out.trans (hb1.mono HD1.out.size))
        have HI2 := hid hi1.1
        have HNE : Hid (∀ p n c, Value.slice s1 M c1 = .slice (some p) n c → p.block ≠ A) := fun p n c e => by have := (hi1.2 p n c e).1; have := HSZ.out; omega
        have HA2 := hid (HA1.out.below hb1 HA1.out.lt)
        refine hK _ _ ⟨⟨V2, HD2.out⟩, rfl⟩ ?_
        clear hK K hi1 hb1 HA1 HD1
      all_goals (
        have a0 : V2.cell? ⟨A, 0, none⟩ = some (.int .i64 0) := HA2.out.cell 0
        have a1 : V2.cell? ⟨A, 1, none⟩ = some (.bool false) := HA2.out.cell 1
        have a2 : V2.cell? ⟨A, 2, none⟩ = some (.slice none 0 0) := HA2.out.cell 2
        have a3 : V2.cell? ⟨A, 3, none⟩ = some (.int .i64 0) := HA2.out.cell 3
        have af := HA2.out.frozen
        refine plan_turn rfl (fun K hK => ?_)
        go_simp
        obtain ⟨V3, hV3⟩ : ∃ x, x = ((((V2.setCell ⟨A, 0, none⟩ (.int .i64 (ernO z k))).setCell ⟨A, 1, none⟩ (.bool b)).setCell ⟨A, 2, none⟩ (.slice s1 M c1)).setCell ⟨A, 3, none⟩ (.int .i64 l)) := ⟨_, rfl⟩
        have HA3 : Hid (Blk V3 A [.int .i64 (ernO z k), .bool b, .slice s1 M c1, .int .i64 l] 36) := by rw [hV3]; exact (((HA2.out.set 0 (.int .i64 (ernO z k))).set 1 (.bool b)).set 2 (.slice s1 M c1)).set 3 (.int .i64 l)
        have HI3 : Hid (IntsAt V3 (.slice s1 M c1) q) := by rw [hV3]; exact (((HI2.out.set (a := ⟨A, 0, none⟩) HNE.out).set (a := ⟨A, 1, none⟩) HNE.out).set (a := ⟨A, 2, none⟩) HNE.out).set (a := ⟨A, 3, none⟩) HNE.out
        have HD3 : Hid (Below wr.heap.size wr V3) := by rw [hV3]; exact below_set1 (below_set1 (below_set1 (below_set1 HD2.out A 0 _ HAW.out) A 1 _ HAW.out) A 2 _ HAW.out) A 3 _ HAW.out
        rw [← hV3]
        refine hK _ _ ⟨⟨V3, HD3.out⟩, rfl⟩ ?_
        clear hK K hV3 HA2 HI2 HD2 a0 a1 a2 a3 af
        refine plan_done ⟨rfl, ?_⟩
        have HP3 := hid (HP.out.below HD3.out HP.out.lt)
        have HB3 := hid (HB.out.trans (HD3.out.mono HB.out.size))
        have HAB : Hid (B0 < A) := hid (Nat.lt_of_lt_of_le HP.out.lt HAW.out)
        have hne1 : B0 ≠ A := Nat.ne_of_lt HAB.out
        have hne2 : A ≠ B0 := fun e => hne1 e.symm
        have k4 : V3.cell? ⟨sb, so + i, none⟩ = some (.int .i16 k) := by rw [HD3.out.cell (p := ⟨sb, so + i, none⟩) HSB.out]; exact HKC.out
        have k4n : ∀ n, (V3.drewN n).cell? ⟨sb, so + i, none⟩ = some (.int .i16 k) := fun n => k4
        have k0 : V3.cell? ⟨B0, 0, none⟩ = some (.int .i64 z) := HP3.out.cell 0
        have k1 : V3.cell? ⟨B0, 1, none⟩ = some (.bool b) := HP3.out.cell 1
        have k2 : V3.cell? ⟨B0, 2, none⟩ = some (.slice s M cap) := HP3.out.cell 2
        have k3 : V3.cell? ⟨B0, 3, none⟩ = some (.int .i64 l) := HP3.out.cell 3
        have k0n : ∀ n, (V3.drewN n).cell? ⟨B0, 0, none⟩ = some (.int .i64 z) := fun n => k0
        clear HKC HSB HZZ
        by_cases hk0 : 0 < k
        case' pos =>
          have hee := HE2.out hk0
          have wk2 : IntKind.i64.wrap (z + k) = z + k := by rw [IntKind.wrap_i64]; omega
          go_upto_region 10 with fail
          go_quiet (fail)
          rename_i nq
          have HA4 : Hid (Blk (V3.drewN nq) A [.int .i64 (ernO z k), .bool b, .slice s1 M c1, .int .i64 l] 36) := HA3
          have HP4 : Hid (Blk (V3.drewN nq) B0 [.int .i64 z, .bool b, .slice s M cap, .int .i64 l] 36) := HP3
          have HI4 : Hid (IntsAt (V3.drewN nq) (.slice s1 M c1) q) := HI3
          have HB4 : Hid (Below w.heap.size w (V3.drewN nq)) := HB3.out.trans ⟨rfl, rfl, rfl, Nat.le_refl _, fun _ _ => rfl⟩
          obtain ⟨V4, hV4⟩ : ∃ x, x = V3.drewN nq := ⟨_, rfl⟩
          rw [← hV4] at HA4 HP4 HI4 HB4 ⊢
          clear hV4 k0 k1 k2 k3 k4 k0n k4n HD3 HP3 HA3 HI3 HB3
          have k0 : V4.cell? ⟨B0, 0, none⟩ = some (.int .i64 z) := HP4.out.cell 0
          have a0 : V4.cell? ⟨A, 0, none⟩ = some (.int .i64 (ernO z k)) := HA4.out.cell 0
          have af := HA4.out.frozen
          go_upto_region 14 with fail
          obtain ⟨V5, hV5⟩ : ∃ x, x = V4.setCell ⟨A, 0, none⟩ (.int .i64 z) := ⟨_, rfl⟩
          have HA5 : Hid (Blk V5 A [.int .i64 z, .bool b, .slice s1 M c1, .int .i64 l] 36) := by rw [hV5]; exact HA4.out.set 0 (.int .i64 z)
          have HP5 : Hid (Blk V5 B0 [.int .i64 z, .bool b, .slice s M cap, .int .i64 l] 36) := by rw [hV5]; exact HP4.out.set_ne _ hne1 _
          have HI5 : Hid (IntsAt V5 (.slice s1 M c1) q) := by rw [hV5]; exact HI4.out.set HNE.out
          have HB5 : Hid (Below w.heap.size w V5) := by rw [hV5]; exact below_set1 HB4.out A 0 _ (by have := HEB.out 0; have := HAB.out; omega)
          rw [← hV5]
          clear hV5 k0 a0 af HA4 HP4 HI4 HB4
          have k0 : V5.cell? ⟨B0, 0, none⟩ = some (.int .i64 z) := HP5.out.cell 0
          have k1 : V5.cell? ⟨B0, 1, none⟩ = some (.bool b) := HP5.out.cell 1
          have k2 : V5.cell? ⟨B0, 2, none⟩ = some (.slice s M cap) := HP5.out.cell 2
          have k3 : V5.cell? ⟨B0, 3, none⟩ = some (.int .i64 l) := HP5.out.cell 3
          have a0 : V5.cell? ⟨A, 0, none⟩ = some (.int .i64 z) := HA5.out.cell 0
          have a1 : V5.cell? ⟨A, 1, none⟩ = some (.bool b) := HA5.out.cell 1
          have a2 : V5.cell? ⟨A, 2, none⟩ = some (.slice s1 M c1) := HA5.out.cell 2
          have a3 : V5.cell? ⟨A, 3, none⟩ = some (.int .i64 l) := HA5.out.cell 3
          go_wp2_with fail
          refine Calls.mono (h20.out z V5 s1 c1 (HII.out _ HB5.out) HI5.out) ?_
          rintro e V6 ⟨rfl, hb6⟩
          have HP6 := hid (HP5.out.below hb6 HP5.out.lt)
          have HB6 := hid (HB5.out.trans (hb6.mono HB5.out.size))
          clear k0 k1 k2 k3 a0 a1 a2 a3 hb6
          have k0 : V6.cell? ⟨B0, 0, none⟩ = some (.int .i64 z) := HP6.out.cell 0
          have kf := HP6.out.frozen
          go_wp2
          go_roundw
          case rel => exact ⟨i + 1, ernO z k, by simp, by omega, by omega, by omega, HP6.out.set 0 (.int .i64 (ernO z k)), below_set1 HB6.out B0 0 _ (Nat.le_of_eq (HEB.out 0).symm)⟩
          case measure => simp [intOf]; omega
        case' neg =>
          have hee := HE3.out (by omega)
          rw [hee] at HA3
          go_upto_region 11 with fail
          have HA4 : Hid (Blk (V3) A [.int .i64 (z), .bool b, .slice s1 M c1, .int .i64 l] 36) := HA3
          have HP4 : Hid (Blk (V3) B0 [.int .i64 z, .bool b, .slice s M cap, .int .i64 l] 36) := HP3
          have HI4 : Hid (IntsAt (V3) (.slice s1 M c1) q) := HI3
          have HB4 : Hid (Below w.heap.size w (V3)) := HB3.out.trans ⟨rfl, rfl, rfl, Nat.le_refl _, fun _ _ => rfl⟩
          obtain ⟨V4, hV4⟩ : ∃ x, x = V3 := ⟨_, rfl⟩
          rw [← hV4] at HA4 HP4 HI4 HB4 ⊢
          clear hV4 k0 k1 k2 k3 k4 k0n k4n HD3 HP3 HA3 HI3 HB3
          have k0 : V4.cell? ⟨B0, 0, none⟩ = some (.int .i64 z) := HP4.out.cell 0
          have a0 : V4.cell? ⟨A, 0, none⟩ = some (.int .i64 (z)) := HA4.out.cell 0
          have af := HA4.out.frozen
          go_upto_region 14 with fail
          obtain ⟨V5, hV5⟩ : ∃ x, x = V4.setCell ⟨A, 0, none⟩ (.int .i64 z) := ⟨_, rfl⟩
          have HA5 : Hid (Blk V5 A [.int .i64 z, .bool b, .slice s1 M c1, .int .i64 l] 36) := by rw [hV5]; exact HA4.out.set 0 (.int .i64 z)
          have HP5 : Hid (Blk V5 B0 [.int .i64 z, .bool b, .slice s M cap, .int .i64 l] 36) := by rw [hV5]; exact HP4.out.set_ne _ hne1 _
          have HI5 : Hid (IntsAt V5 (.slice s1 M c1) q) := by rw [hV5]; exact HI4.out.set HNE.out
          have HB5 : Hid (Below w.heap.size w V5) := by rw [hV5]; exact below_set1 HB4.out A 0 _ (by have := HEB.out 0; have := HAB.out; omega)
          rw [← hV5]
          clear hV5 k0 a0 af HA4 HP4 HI4 HB4
          have k0 : V5.cell? ⟨B0, 0, none⟩ = some (.int .i64 z) := HP5.out.cell 0
          have k1 : V5.cell? ⟨B0, 1, none⟩ = some (.bool b) := HP5.out.cell 1
          have k2 : V5.cell? ⟨B0, 2, none⟩ = some (.slice s M cap) := HP5.out.cell 2
          have k3 : V5.cell? ⟨B0, 3, none⟩ = some (.int .i64 l) := HP5.out.cell 3
          have a0 : V5.cell? ⟨A, 0, none⟩ = some (.int .i64 z) := HA5.out.cell 0
          have a1 : V5.cell? ⟨A, 1, none⟩ = some (.bool b) := HA5.out.cell 1
          have a2 : V5.cell? ⟨A, 2, none⟩ = some (.slice s1 M c1) := HA5.out.cell 2
          have a3 : V5.cell? ⟨A, 3, none⟩ = some (.int .i64 l) := HA5.out.cell 3
          go_wp2_with fail
          refine Calls.mono (h20.out z V5 s1 c1 (HII.out _ HB5.out) HI5.out) ?_
          rintro e V6 ⟨rfl, hb6⟩
          have HP6 := hid (HP5.out.below hb6 HP5.out.lt)
          have HB6 := hid (HB5.out.trans (hb6.mono HB5.out.size))
          clear k0 k1 k2 k3 a0 a1 a2 a3 hb6
          have k0 : V6.cell? ⟨B0, 0, none⟩ = some (.int .i64 z) := HP6.out.cell 0
          have kf := HP6.out.frozen
          go_wp2
          go_roundw
          case rel => exact ⟨i + 1, z, by simp, by omega, by omega, by omega, HP6.out.set 0 (.int .i64 (z)), below_set1 HB6.out B0 0 _ (Nat.le_of_eq (HEB.out 0).symm)⟩
          case measure => simp [intOf]; omega)
    · obtain rfl : i = L := by omega
      have hl' : ((i : Int) < (i : Int)) = False := by simp
      go_wp2
      go_ret
      exact ⟨rfl, HB.out⟩
end
end Go.Proofs.Ytjkcmedmojidgaa
