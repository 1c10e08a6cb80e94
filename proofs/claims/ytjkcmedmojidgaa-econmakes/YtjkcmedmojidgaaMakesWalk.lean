/- The law EconMakes, walked. -/
import Derived.Test.YtjkcmedmojidgaaTri
import Derived.Test.YtjkcmedmojidgaaGd
namespace Go.Proofs.Ytjkcmedmojidgaa
open Go.RowKit
theorem below_set1' {B : Nat} {a w : World} (h : Below B a w) (b j : Nat) (u : Value) (hb : B ≤ b) : Below B a (w.setCell ⟨b, j, none⟩ u) := h.trans ⟨rfl, rfl, rfl, by simp, fun k hk => Below.heap_setCell _ _ _ _ (by simp; omega)⟩
set_option maxRecDepth 20000 in
set_option maxHeartbeats 16000000 in
theorem makes_walk (t : Option Addr) (N capN : Nat) (zs : List Int) (ore : Int) (w : World) (hN : N = zs.length) (hz : ∀ i, 0 ≤ zs.getD i 0 ∧ zs.getD i 0 ≤ 255) (hZ : KAt .u8 w (.slice t N capN) zs) (hore : 0 ≤ ore ∧ ore ≤ 65535) :
    Calls Try.prog 5 #[.slice t N capN, .int .u16 ore] w fun e w' => Out w (.bool true) e w' := by
  have h8 : Hid (∀ W, Calls Try.prog 8 #[] W fun e w' => e = .returned (.bool true) ∧ Below W.heap.size W w') := awake_any
  unfold Out
  by_cases hbig : 300 < N
  · have hb1 : (300 : Int) < (N : Int) := by omega
    clear hN hz hZ hore hbig
    go_enter Try.func5, Try.ntmps5
    go_wp2_with fail
    refine Calls.mono (h8.out _) ?_
    rintro e w1 ⟨rfl, hb⟩
    have HB1 := hid hb
    clear hb
    go_wp2_with fail
    refine Calls.mono (h8.out _) ?_
    rintro e w2 ⟨rfl, hb⟩
    have HB2 := hid (HB1.out.trans (hb.mono HB1.out.size))
    clear hb
    go_wp2
    go_ret
    exact ⟨rfl, HB2.out⟩
  have hb1 : ((300 : Int) < (N : Int)) = False := by simp; omega
  have hN300 : (N : Int) ≤ 300 := by omega
  have h14 : Hid (∀ (p : Pl) W s n c k, IntsAt W (.slice s n c) p.q → n = p.q.length → n ≤ 3 → I64 p.o → Calls Try.prog 14 #[.agg #[.int .i64 p.o, .bool p.b, .slice s n c, .int .i64 p.l], .int .i64 k] W fun e w' => ∃ s' n' c', n' = (tr p k).q.length ∧ e = .returned (.tuple #[.agg #[.int .i64 (tr p k).o, .bool (tr p k).b, .slice s' n' c', .int .i64 (tr p k).l], .int .i64 (trE p k)]) ∧ Rw w' W.heap.size (.slice s' n' c') (tr p k).q ∧ Below W.heap.size W w') := fun p W s n c k h hn hs ho => train_any p.o p.b p.q p.l k s c n W h hn (by omega) ho
  have h16 : Hid (∀ (p : Pl) W s n c, IntsAt W (.slice s n c) p.q → n = p.q.length → n ≤ 3 → I64 p.l → Calls Try.prog 16 #[.agg #[.int .i64 p.o, .bool p.b, .slice s n c, .int .i64 p.l]] W fun e w' => ∃ s' n' c', n' = (wk p).q.length ∧ e = .returned (.tuple #[.agg #[.int .i64 (wk p).o, .bool (wk p).b, .slice s' n' c', .int .i64 (wk p).l], .int .i64 (wkV p)]) ∧ Rw w' W.heap.size (.slice s' n' c') (wk p).q ∧ Below W.heap.size W w') := fun p W s n c h hn hs ho => work_any p.o p.b p.q p.l s c n W h hn (by omega) ho
  have h18 : Hid (∀ (p : Pl) W s n c, IntsAt W (.slice s n c) p.q → n = p.q.length → n ≤ 3 → Calls Try.prog 18 #[.agg #[.int .i64 p.o, .bool p.b, .slice s n c, .int .i64 p.l]] W fun e w' => ∃ s' n' c', n' = (pp p).q.length ∧ e = .returned (.tuple #[.agg #[.int .i64 (pp p).o, .bool (pp p).b, .slice s' n' c', .int .i64 (pp p).l], .int .i64 (ppE p)]) ∧ Rw w' W.heap.size (.slice s' n' c') (pp p).q ∧ Below W.heap.size W w') := fun p W s n c h hn hs => pop_any p.o p.b p.q p.l s c n W h hn (by omega)
  have h10 : Hid (∀ k W, Calls Try.prog 10 #[.int .i64 k] W fun e w' => e = .returned (.tuple #[statV k, .int .i64 (statE k)]) ∧ Below W.heap.size W w') := refStat_any
  unfold statV at h10
  have HZ := hid hz
  have HZZ := hid (fun W' (h : Below w.heap.size w W') => hZ.below h)
  have HO : Hid (0 ≤ ore ∧ ore ≤ 65535) := hore
  obtain ⟨ho0, ho1⟩ := hore
  clear hN hz hZ hbig
  go_enter Try.func5, Try.ntmps5
  go_wp2_with fail
  refine Calls.mono (h8.out _) ?_
  rintro e w1 ⟨rfl, hb⟩
  have HB1 := hid hb
  clear hb
  go_upto_region 4 with fail
  obtain ⟨w2, hw2⟩ : ∃ x, x = w1.alloc (.cells #[.int .i64 ore, .bool true, .slice none 0 0, .int .i64 0] 36) := ⟨_, rfl⟩
  obtain ⟨G, hG⟩ : ∃ x, x = w1.heap.size := ⟨_, rfl⟩
  have HP2 : Hid (Blk w2 G [.int .i64 ore, .bool true, .slice none 0 0, .int .i64 0] 36) := by rw [hw2]; exact Blk.new' _ _ _ _ hG
  have HB2 : Hid (Below w.heap.size w w2) := by rw [hw2]; exact HB1.out.alloc HB1.out.size _
  have HGW : Hid (w.heap.size ≤ G) := by rw [hG]; exact HB1.out.size
  rw [← hw2, ← hG]
  clear hw2 hG HB1
  go_upto_region 8 with fail
  go_loopw [6, 7, 8, 9, 10] (fun dv wv gv nv tv wr => ∃ (p : Pl) (paid : Int) (want got : List Int) (next turn : Nat) (s : Option Addr) (n c : Nat), dv = .int .i64 paid ∧ nv = .int .i64 (next : Int) ∧ tv = .int .i64 (turn : Int) ∧ turn ≤ 12 * (N + 1) ∧ next ≤ N ∧ Hid (Blk wr G [.int .i64 p.o, .bool p.b, .slice s n c, .int .i64 p.l] 36) ∧ Hid (n = p.q.length) ∧ Hid (Tri wr G wv gv (.slice s n c) want got p.q) ∧ Hid (Gd ore p paid want got) ∧ Hid (U p + 4 * ((N : Int) - (next : Int)) ≤ max (4 * (N : Int) - (turn : Int)) 0) ∧ Hid (want.length ≤ next) ∧ Hid (Below w.heap.size w wr)) (fun _ _ _ _ tv _ => 12 * (N + 1) - (intOf tv).toNat)
  case atStart =>
    refine ⟨⟨ore, true, [], 0⟩, 0, [], [], 0, 0, none, 0, 0, rfl, rfl, rfl, by omega, by omega, HP2, rfl, ?_, ?_, ?_, Nat.le_refl _, HB2⟩
    · exact ⟨OwnI.nil _ _, OwnI.nil _ _, (OwnI.nil _ _).rw, (fun k h => by cases h), (fun k h => by cases h), (fun k h => by cases h), HP2.out.lt⟩
    · exact ⟨rfl, by simp only; omega, by simp only; omega, by omega, rfl, by simp, (fun x h => by cases h), Or.inl ⟨rfl, rfl⟩⟩
    · show U ⟨ore, true, [], 0⟩ + _ ≤ _
      have : U ⟨ore, true, [], 0⟩ = 0 := rfl
      rw [this]; omega
  case round =>
    clear HP2 HB2
    obtain ⟨p, paid, want, got, next, turn, s, n, c, rfl, rfl, rfl, hturn, hnext, HPL, HN, HTR, HGD, HPS, HWL, HB⟩ := hrel
    generalize u7 = wv at *
    generalize u8 = gv at *
    by_cases htl : turn < 12 * (N + 1)
    · have htl' : (turn : Int) < 12 * ((N : Int) + 1) := by omega
      have wr1 : wrap64 (12 * ((N : Int) + 1)) = 12 * ((N : Int) + 1) := by unfold wrap64; omega
      have HPB : Hid (0 ≤ paid ∧ paid ≤ 65535) := by have h1 := HGD.out.o; have h2 := HGD.out.o0; have h3 := HGD.out.pd; exact hid (by omega)
      have HNL : Hid (n ≤ 3) := by have := HGD.out.len; have := HN.out; exact hid (by omega)
      have HPO : Hid (I64 p.o) := by have h1 := HGD.out.o; have h2 := HGD.out.o0; have h3 := HGD.out.pd; unfold I64; exact hid (by omega)
      by_cases hnl : next < N
      case' pos =>
        have hnl' : (next : Int) < (N : Int) := by omega
        have hnl0 : (0 : Int) ≤ (next : Int) := by omega
        obtain ⟨sb, so, rfl, hsb, hzc⟩ := (HZZ.out wr HB.out).pos next hnl
        have hk := HZ.out next
        have HKC : Hid (wr.cell? ⟨sb, so + next, none⟩ = some (.int .u8 (zs.getD next 0))) := hzc next hnl
        have HSB := hid hsb
        clear hzc hsb
        generalize zs.getD next 0 = z at *
        have hzt : Int.tmod z 6 = z % 6 := Int.tmod_eq_emod_of_nonneg hk.1
        obtain ⟨k, hkz⟩ : ∃ k, z % 6 = k := ⟨_, rfl⟩
        have hk05 : 0 ≤ k ∧ k ≤ 5 := by omega
        have wk1 : IntKind.i64.wrap k = k := by rw [IntKind.wrap_i64]; omega
        obtain ⟨n0, n1, n2, n3⟩ : (∀ x : Nx wr, x.w.cell? ⟨G, 0, none⟩ = some (.int .i64 p.o)) ∧ (∀ x : Nx wr, x.w.cell? ⟨G, 1, none⟩ = some (.bool p.b)) ∧ (∀ x : Nx wr, x.w.cell? ⟨G, 2, none⟩ = some (.slice s n c)) ∧ (∀ x : Nx wr, x.w.cell? ⟨G, 3, none⟩ = some (.int .i64 p.l)) :=
          ⟨fun x => (HPL.out.below x.h HPL.out.lt).cell 0, fun x => (HPL.out.below x.h HPL.out.lt).cell 1, fun x => (HPL.out.below x.h HPL.out.lt).cell 2, fun x => (HPL.out.below x.h HPL.out.lt).cell 3⟩
        have n4 : ∀ x : Nx wr, x.w.cell? ⟨sb, so + next, none⟩ = some (.int .u8 z) := fun x => by rw [x.h.cell (p := ⟨sb, so + next, none⟩) HSB.out]; exact HKC.out
        go_upto_region 11 with fail
        refine wp_region_fork2 (S := fun w' => ∃ x : Nx wr, w' = x.w) [0, 1, 2, 3, 4, 5, 6] 7 11 [(8, false), (9, false), (10, false), (11, true), (12, true), (13, false)] [(7, true), (8, false), (9, false), (10, false), (12, true), (13, false)] (by kernel_rfl) (by kernel_rfl) rfl rfl (by kernel_rfl) ⟨⟨wr.drew, Below.drewN (Below.refl _ _) 1⟩, rfl⟩ ?_
        repeat (refine fork2_take rfl (fun K hK => ?_); go_simp; refine ⟨_, fun _ => rfl, hK _ ?_⟩; clear hK K)
        clear n0 n1 n2 n3 n4
        have HD : Hid (Below wr.heap.size wr wr.drew) := Below.drewN (Below.refl _ _) 1
        have HDZ : Hid (wr.heap.size ≤ wr.drew.heap.size) := HD.out.size
        obtain ⟨V0, hV0⟩ : ∃ x, x = wr.drew := ⟨_, rfl⟩
        rw [← hV0] at HD HDZ ⊢
        clear hV0
        have HC := hid (fun V (h : Below wr.heap.size wr V) => h14.out p V s n c k ((HTR.out.below h).q.1) HN.out HNL.out HPO.out)
        refine fork2_both ?A ?B
        case' A =>
          refine plan_turn rfl (fun K hK => ?_)
          go_simp
          refine Calls.mono (HC.out _ HD.out) ?_
          rintro _ V1 ⟨s1, n1, c1, hn1, rfl, hr1, hb1⟩
          have HN1 := hid hn1
          clear hn1
          have HD1 := hid (HD.out.trans (hb1.mono HD.out.size))
          have HR1 := hid (hr1.mono HDZ.out)
          refine hK _ _ ⟨⟨V1, HD1.out⟩, rfl⟩ ?_
          clear hK K hr1 hb1 HD HDZ
          iterate 3 (refine plan_take rfl (fun K hK => ?_); go_simp; refine ⟨_, fun _ => rfl, hK _ ?_⟩; clear hK K)
          refine plan_turn rfl (fun K hK => ?_)
          go_simp
          obtain ⟨V2, hV2⟩ : ∃ x, x = V1.alloc (.cells #[Value.int .i64 0, .bool false, .slice none 0 0, .int .i64 0] 36) := ⟨_, rfl⟩
          obtain ⟨A, hA⟩ : ∃ x, x = V1.heap.size := ⟨_, rfl⟩
          have HA2 : Hid (Blk V2 A [.int .i64 0, .bool false, .slice none 0 0, .int .i64 0] 36) := by rw [hV2]; exact Blk.new' _ _ _ _ hA
          have HR2 : Hid (Rw V2 wr.heap.size (.slice s1 n1 c1) (tr p k).q) := by rw [hV2]; exact HR1.out.below ((Below.refl _ _).alloc (Nat.le_refl _) _)
          have HNE : Hid (∀ j, (Value.slice s1 n1 c1).ownBlock = some j → j ≠ A) := fun j e => by have := (HR1.out.block j e).2; omega
          have HD2 : Hid (Below wr.heap.size wr V2) := by rw [hV2]; exact HD1.out.alloc HD1.out.size _
          have HAW : Hid (wr.heap.size ≤ A) := by rw [hA]; exact HD1.out.size
          rw [← hV2, ← hA]
          refine hK _ _ ⟨⟨V2, HD2.out⟩, rfl⟩ ?_
          clear hK K hV2 hA HR1 HD1
        case' B =>
          refine plan_turn rfl (fun K hK => ?_)
          go_simp
          obtain ⟨V1, hV1⟩ : ∃ x, x = V0.alloc (.cells #[Value.int .i64 0, .bool false, .slice none 0 0, .int .i64 0] 36) := ⟨_, rfl⟩
          obtain ⟨A, hA⟩ : ∃ x, x = V0.heap.size := ⟨_, rfl⟩
          have HA1 : Hid (Blk V1 A [.int .i64 0, .bool false, .slice none 0 0, .int .i64 0] 36) := by rw [hV1]; exact Blk.new' _ _ _ _ hA
          have HD1 : Hid (Below wr.heap.size wr V1) := by rw [hV1]; exact HD.out.alloc HD.out.size _
          have HAW : Hid (wr.heap.size ≤ A) := by rw [hA]; exact HD.out.size
          have HSZ : Hid (V1.heap.size = A + 1) := by rw [hV1, hA]; exact hid (by simp)
          rw [← hV1, ← hA]
          refine hK _ _ ⟨⟨V1, HD1.out⟩, rfl⟩ ?_
          clear hK K hV1 hA HD HDZ
          refine plan_turn rfl (fun K hK => ?_)
          go_simp
          refine Calls.mono (HC.out _ HD1.out) ?_
          rintro _ V2 ⟨s1, n1, c1, hn1, rfl, hr1, hb1⟩
          have HN1 := hid hn1
          clear hn1
          have HD2 := hid (HD1.out.trans (hb1.mono HD1.out.size))
          have HR2 := hid (hr1.mono HD1.out.size)
          have HNE : Hid (∀ j, (Value.slice s1 n1 c1).ownBlock = some j → j ≠ A) := fun j e => by have := (hr1.block j e).1; have := HSZ.out; omega
          have HA2 := hid (HA1.out.below hb1 HA1.out.lt)
          refine hK _ _ ⟨⟨V2, HD2.out⟩, rfl⟩ ?_
          clear hK K hr1 hb1 HA1 HD1 HSZ
          iterate 3 (refine plan_take rfl (fun K hK => ?_); go_simp; refine ⟨_, fun _ => rfl, hK _ ?_⟩; clear hK K)
        all_goals (
          have HWA : Hid (wv.ownBlock ≠ some A) := fun e => by have := (HTR.out.w.block A e).2; have := HAW.out; omega
          have HT2 := hid (HTR.out.queue HD2.out HR2.out)
          have HG2 := hid (HPL.out.below HD2.out HPL.out.lt)
          have HGA : Hid (G ≠ A) := by have := HPL.out.lt; have := HAW.out; exact hid (by omega)
          clear HC HR2
          have a0 : V2.cell? ⟨A, 0, none⟩ = some (.int .i64 0) := HA2.out.cell 0
          have a1 : V2.cell? ⟨A, 1, none⟩ = some (.bool false) := HA2.out.cell 1
          have a2 : V2.cell? ⟨A, 2, none⟩ = some (.slice none 0 0) := HA2.out.cell 2
          have a3 : V2.cell? ⟨A, 3, none⟩ = some (.int .i64 0) := HA2.out.cell 3
          have af := HA2.out.frozen
          have HTE : Hid (trE p k = 0 → Gd ore (tr p k) (paid + cost k) (want ++ [k]) got ∧ U (tr p k) ≤ U p + 3 ∧ 0 ≤ cost k ∧ cost k ≤ 40) := fun e => gd_train HGD.out e
          have HTS : Hid (trE p k ≠ 0 → tr p k = p) := fun e => tr_same e
          have HTF : Hid (trE p k = 6 → 3 ≤ p.q.length) := fun e => trE_full e
          generalize trE p k = X at *
          generalize tr p k = p1 at *
          refine plan_turn rfl (fun K hK => ?_)
          go_simp
          obtain ⟨V3, hV3⟩ : ∃ x, x = ((((V2.setCell ⟨A, 0, none⟩ (.int .i64 p1.o)).setCell ⟨A, 1, none⟩ (.bool p1.b)).setCell ⟨A, 2, none⟩ (.slice s1 n1 c1)).setCell ⟨A, 3, none⟩ (.int .i64 p1.l)) := ⟨_, rfl⟩
          have HA3 : Hid (Blk V3 A [.int .i64 p1.o, .bool p1.b, .slice s1 n1 c1, .int .i64 p1.l] 36) := by rw [hV3]; exact (((HA2.out.set 0 (.int .i64 p1.o)).set 1 (.bool p1.b)).set 2 (.slice s1 n1 c1)).set 3 (.int .i64 p1.l)
          have HT3 : Hid (Tri V3 G wv gv (.slice s1 n1 c1) want got p1.q) := by rw [hV3]; exact (((HT2.out.setA (.int .i64 p1.o) 0 HWA.out (fun e => by have := (HTR.out.g.block A e).2; have := HAW.out; omega) HNE.out).setA (.bool p1.b) 1 HWA.out (fun e => by have := (HTR.out.g.block A e).2; have := HAW.out; omega) HNE.out).setA (.slice s1 n1 c1) 2 HWA.out (fun e => by have := (HTR.out.g.block A e).2; have := HAW.out; omega) HNE.out).setA (.int .i64 p1.l) 3 HWA.out (fun e => by have := (HTR.out.g.block A e).2; have := HAW.out; omega) HNE.out
          have HG3 : Hid (Blk V3 G [.int .i64 p.o, .bool p.b, .slice s n c, .int .i64 p.l] 36) := by rw [hV3]; exact (((HG2.out.set_ne ⟨A, 0, none⟩ HGA.out _).set_ne ⟨A, 1, none⟩ HGA.out _).set_ne ⟨A, 2, none⟩ HGA.out _).set_ne ⟨A, 3, none⟩ HGA.out _
          have HD3 : Hid (Below wr.heap.size wr V3) := by rw [hV3]; exact below_set1' (below_set1' (below_set1' (below_set1' HD2.out A 0 _ HAW.out) A 1 _ HAW.out) A 2 _ HAW.out) A 3 _ HAW.out
          rw [← hV3]
          refine hK _ _ ⟨⟨V3, HD3.out⟩, rfl⟩ ?_
          clear hK K hV3 HA2 HT2 HG2 HD2 HNE a0 a1 a2 a3 af
          refine plan_take rfl (fun K hK => ?_)
          go_simp
          refine ⟨_, fun _ => rfl, hK _ ?_⟩
          clear hK K
          refine plan_done ⟨rfl, ?_⟩
          have k4 : V3.cell? ⟨sb, so + next, none⟩ = some (.int .u8 z) := by rw [HD3.out.cell (p := ⟨sb, so + next, none⟩) HSB.out]; exact HKC.out
          have HB3 := hid (HB.out.trans (HD3.out.mono HB.out.size))
          clear HKC HSB HD3 HAW HPL HTR HB
          have HU := hid (U_nonneg HGD.out)
          have h3 : X = 0 ∨ X = 6 ∨ (X ≠ 0 ∧ X ≠ 6) := by omega
          clear h14 h8
          rcases h3 with hX | hX | ⟨hX, hX6⟩
          case' inl =>
            subst hX
            obtain ⟨hgd1, hu1, hc0, hc40⟩ := HTE.out rfl
            have HGDa := hid hgd1
            have HPSa : Hid (max (U p1 - 1) 0 + 4 * ((N : Int) - ((next + 1 : Nat) : Int)) ≤ max (4 * (N : Int) - ((turn : Int) + 1)) 0) := by have := HPS.out; have := HU.out.1; exact hid (by omega)
            have HCK : Hid (0 ≤ cost k ∧ cost k ≤ 40) := ⟨hc0, hc40⟩
            have wr2 : wrap64 (paid + cost k) = paid + cost k := by have := HPB.out; unfold wrap64; omega
            clear hgd1 hu1 hc0 hc40 HTE HTS HTF
            have h10k := hid (h10.out k)
            generalize cost k = ck at *
            generalize turns k = U1 at *
            generalize st k 60 10 25 12 = U2 at *
            generalize st k 4 1 6 2 = U3 at *
            generalize st k 3 1 2 1 = U4 at *
            generalize st k 5 3 4 6 = U5 at *
            go_wp2_with fail
            refine Calls.mono (h10k.out _) ?_
            rintro e V4 ⟨rfl, hb4⟩
            obtain ⟨V5, hV5⟩ : ∃ x, x = V4.alloc (.cells #[.int .i64 ck, .int .i64 U1, .int .i64 U2, .int .i64 U3, .int .i64 U4, .int .i64 U5] 28) := ⟨_, rfl⟩
            obtain ⟨A2, hA2⟩ : ∃ x, x = V4.heap.size := ⟨_, rfl⟩
            have hb5 : Below V3.heap.size V3 V5 := by rw [hV5]; exact hb4.alloc hb4.size _
            have HT5 := hid (HT3.out.below hb5)
            have HA5 := hid (HA3.out.below hb5 HA3.out.lt)
            have HG5 := hid (HG3.out.below hb5 HG3.out.lt)
            have HB5 := hid (HB3.out.trans (hb5.mono HB3.out.size))
            have HAB5 : Hid (Blk V5 A2 [.int .i64 ck, .int .i64 U1, .int .i64 U2, .int .i64 U3, .int .i64 U4, .int .i64 U5] 28) := by rw [hV5]; exact Blk.new' _ _ _ _ hA2
            have k5 : V5.cell? ⟨sb, so + next, none⟩ = some (.int .u8 z) := by rw [hb5.cell (p := ⟨sb, so + next, none⟩) (lt_of_cell k4)]; exact k4
            go_upto_region 14 with fail
            rw [← hV5, ← hA2]
            clear hV5 hA2 hb4 hb5 k4 HT3 HA3 HG3 HB3
            have t0 : V5.cell? ⟨A2, 0, none⟩ = some (.int .i64 ck) := HAB5.out.cell 0
            go_upto_region 15 with fail
            rw [wr2]
            clear t0 HAB5
            obtain ⟨V6, hV6⟩ : ∃ x, x = V5.alloc (.cells #[.int .i64 k] 3) := ⟨_, rfl⟩
            have hb6 : Below V5.heap.size V5 V6 := by rw [hV6]; exact (Below.refl _ _).alloc (Nat.le_refl _) _
            have HT6 := hid (HT5.out.below hb6)
            have HA6 := hid (HA5.out.below hb6 HA5.out.lt)
            have HG6 := hid (HG5.out.below hb6 HG5.out.lt)
            have HB6 := hid (HB5.out.trans (hb6.mono HB5.out.size))
            have HI6 : Hid (IntsAt V6 (.slice (some ⟨V5.heap.size, 0, none⟩) 1 1) [k]) := by rw [hV6]; exact ints_one V5 (.int .i64 k) k rfl
            have HO6 := hid HT6.out.w
            have HSL : Hid (G + 1 ≤ V6.heap.size) := hid HT6.out.lt
            have HLN : Hid (want.length + [k].length ≤ 1000000000) := by have := HWL.out; exact hid (by simp only [List.length_cons, List.length_nil]; omega)
            rw [hV6] at HI6 HO6 HSL
            have HVE := hid (fun (_ : Nat) => hV6)
            have HK1 : Hid ([k] ≠ []) := hid (by simp)
            clear hV6 hb6 HT5 HA5 HG5 HB5
            go_upto_region 20 with (first
              | ((at_builtin); (refine wpL_appendN (G + 1) wv (.slice (some ⟨V5.heap.size, 0, none⟩) 1 1) want [k] HK1.out ?_ ?_ HO6.out HI6.out HLN.out HSL.out ?_); (rfl); (rfl); (intro wv1 V7 ho7 hg7); (rw [← HVE.out 0] at hg7); (have HT7 := hid (HT6.out.growW hg7 ho7)); (have HA7 := hid (hg7.blk HA6.out HWA.out)); (have HG7 := hid (hg7.blk HG6.out HT6.out.hitW)); (have HB7 := hid (HB6.out.trans ((hg7.below HT6.out.w HT6.out.lt).mono (by have := HGW.out; omega)))); (clear ho7 hg7); (have a0 : V7.cell? ⟨A, 0, none⟩ = some (.int .i64 p1.o) := HA7.out.cell 0); (have a1 : V7.cell? ⟨A, 1, none⟩ = some (.bool p1.b) := HA7.out.cell 1); (have a2 : V7.cell? ⟨A, 2, none⟩ = some (.slice s1 n1 c1) := HA7.out.cell 2); (have a3 : V7.cell? ⟨A, 3, none⟩ = some (.int .i64 p1.l) := HA7.out.cell 3); (have g0 : V7.cell? ⟨G, 0, none⟩ = some (.int .i64 p.o) := HG7.out.cell 0); (have g1 : V7.cell? ⟨G, 1, none⟩ = some (.bool p.b) := HG7.out.cell 1); (have g2 : V7.cell? ⟨G, 2, none⟩ = some (.slice s n c) := HG7.out.cell 2); (have g3 : V7.cell? ⟨G, 3, none⟩ = some (.int .i64 p.l) := HG7.out.cell 3); (have gf := HG7.out.frozen); (simp only [Act.put, List.setIfInBounds_toArray, List.set_cons_zero, List.set_cons_succ])))
            clear a0 a1 a2 a3 g0 g1 g2 g3 gf
            obtain ⟨V8, hV8⟩ : ∃ x, x = ((((V7.setCell ⟨G, 0, none⟩ (.int .i64 p1.o)).setCell ⟨G, 1, none⟩ (.bool p1.b)).setCell ⟨G, 2, none⟩ (.slice s1 n1 c1)).setCell ⟨G, 3, none⟩ (.int .i64 p1.l)) := ⟨_, rfl⟩
            have HT8 : Hid (Tri V8 G wv1 gv (.slice s1 n1 c1) (want ++ [k]) got p1.q) := by rw [hV8]; exact (((HT7.out.set 0 (.int .i64 p1.o)).set 1 (.bool p1.b)).set 2 (.slice s1 n1 c1)).set 3 (.int .i64 p1.l)
            have HG8 : Hid (Blk V8 G [.int .i64 p1.o, .bool p1.b, .slice s1 n1 c1, .int .i64 p1.l] 36) := by rw [hV8]; exact (((HG7.out.set 0 (.int .i64 p1.o)).set 1 (.bool p1.b)).set 2 (.slice s1 n1 c1)).set 3 (.int .i64 p1.l)
            have HB8 : Hid (Below w.heap.size w V8) := by rw [hV8]; exact below_set1' (below_set1' (below_set1' (below_set1' HB7.out G 0 _ HGW.out) G 1 _ HGW.out) G 2 _ HGW.out) G 3 _ HGW.out
            rw [← hV8]
            clear hV8
            have HWL1 : Hid ((want ++ [k]).length ≤ next + 1) := by have := HWL.out; exact hid (by simp only [List.length_append, List.length_cons, List.length_nil]; omega)
            have HNX : Hid (next + 1 ≤ N) := hid (by omega)
            have hcast : ((next : Int) + 1) = ((next + 1 : Nat) : Int) := by omega
            rw [hcast]
            clear hcast wr2 hnl' hnl0 hnl HWL
            generalize next + 1 = next1 at *
            generalize want ++ [k] = want1 at *
            generalize paid + ck = paid1 at *
            have HGD1 := HGDa
            have HPS1 := HPSa
            have HGX := HG8
            clear HGD HGDa HPSa HT7 HG7 HB7 HA7
          case' inr.inl =>
            subst hX
            have e1 := HTS.out (by omega)
            subst e1
            have HPSa : Hid (max (U p1 - 1) 0 + 4 * ((N : Int) - ((next : Nat) : Int)) ≤ max (4 * (N : Int) - ((turn : Int) + 1)) 0) := by have := HPS.out; have := HU.out.1; have := HU.out.2.2 (HTF.out rfl); exact hid (by omega)
            clear HTE HTS HTF k4
            have a0 : V3.cell? ⟨A, 0, none⟩ = some (.int .i64 p1.o) := HA3.out.cell 0
            have a1 : V3.cell? ⟨A, 1, none⟩ = some (.bool p1.b) := HA3.out.cell 1
            have a2 : V3.cell? ⟨A, 2, none⟩ = some (.slice s1 n1 c1) := HA3.out.cell 2
            have a3 : V3.cell? ⟨A, 3, none⟩ = some (.int .i64 p1.l) := HA3.out.cell 3
            have g0 : V3.cell? ⟨G, 0, none⟩ = some (.int .i64 p1.o) := HG3.out.cell 0
            have g1 : V3.cell? ⟨G, 1, none⟩ = some (.bool p1.b) := HG3.out.cell 1
            have g2 : V3.cell? ⟨G, 2, none⟩ = some (.slice s n c) := HG3.out.cell 2
            have g3 : V3.cell? ⟨G, 3, none⟩ = some (.int .i64 p1.l) := HG3.out.cell 3
            have gf := HG3.out.frozen
            go_upto_region 20 with fail
            clear a0 a1 a2 a3 g0 g1 g2 g3 gf
            obtain ⟨V8, hV8⟩ : ∃ x, x = ((((V3.setCell ⟨G, 0, none⟩ (.int .i64 p1.o)).setCell ⟨G, 1, none⟩ (.bool p1.b)).setCell ⟨G, 2, none⟩ (.slice s1 n1 c1)).setCell ⟨G, 3, none⟩ (.int .i64 p1.l)) := ⟨_, rfl⟩
            have HT8 : Hid (Tri V8 G wv gv (.slice s1 n1 c1) want got p1.q) := by rw [hV8]; exact (((HT3.out.set 0 (.int .i64 p1.o)).set 1 (.bool p1.b)).set 2 (.slice s1 n1 c1)).set 3 (.int .i64 p1.l)
            have HG8 : Hid (Blk V8 G [.int .i64 p1.o, .bool p1.b, .slice s1 n1 c1, .int .i64 p1.l] 36) := by rw [hV8]; exact (((HG3.out.set 0 (.int .i64 p1.o)).set 1 (.bool p1.b)).set 2 (.slice s1 n1 c1)).set 3 (.int .i64 p1.l)
            have HB8 : Hid (Below w.heap.size w V8) := by rw [hV8]; exact below_set1' (below_set1' (below_set1' (below_set1' HB3.out G 0 _ HGW.out) G 1 _ HGW.out) G 2 _ HGW.out) G 3 _ HGW.out
            rw [← hV8]
            clear hV8
            have HWL1 := HWL
            have HNX : Hid (next ≤ N) := hid hnext
            clear hnl' hnl0 hnl hnext
            generalize next = next1 at *
            generalize want = want1 at *
            generalize paid = paid1 at *
            generalize wv = wv1 at *
            have HGD1 := HGD
            have HPS1 := HPSa
            have HGX := HG8
            clear HGD HPSa HT3 HG3 HB3 HA3
          case' inr.inr =>
            have e1 := HTS.out (by omega)
            subst e1
            have HPSa : Hid (max (U p1 - 1) 0 + 4 * ((N : Int) - ((next + 1 : Nat) : Int)) ≤ max (4 * (N : Int) - ((turn : Int) + 1)) 0) := by have := HPS.out; have := HU.out.1; exact hid (by omega)
            have hx0 : (X == 0) = false := by simpa using hX
            have hx6 : (X == 6) = false := by simpa using hX6
            clear HTE HTS HTF k4
            have a0 : V3.cell? ⟨A, 0, none⟩ = some (.int .i64 p1.o) := HA3.out.cell 0
            have a1 : V3.cell? ⟨A, 1, none⟩ = some (.bool p1.b) := HA3.out.cell 1
            have a2 : V3.cell? ⟨A, 2, none⟩ = some (.slice s1 n1 c1) := HA3.out.cell 2
            have a3 : V3.cell? ⟨A, 3, none⟩ = some (.int .i64 p1.l) := HA3.out.cell 3
            have g0 : V3.cell? ⟨G, 0, none⟩ = some (.int .i64 p1.o) := HG3.out.cell 0
            have g1 : V3.cell? ⟨G, 1, none⟩ = some (.bool p1.b) := HG3.out.cell 1
            have g2 : V3.cell? ⟨G, 2, none⟩ = some (.slice s n c) := HG3.out.cell 2
            have g3 : V3.cell? ⟨G, 3, none⟩ = some (.int .i64 p1.l) := HG3.out.cell 3
            have gf := HG3.out.frozen
            go_upto_region 20 with fail
            clear a0 a1 a2 a3 g0 g1 g2 g3 gf
            obtain ⟨V8, hV8⟩ : ∃ x, x = ((((V3.setCell ⟨G, 0, none⟩ (.int .i64 p1.o)).setCell ⟨G, 1, none⟩ (.bool p1.b)).setCell ⟨G, 2, none⟩ (.slice s1 n1 c1)).setCell ⟨G, 3, none⟩ (.int .i64 p1.l)) := ⟨_, rfl⟩
            have HT8 : Hid (Tri V8 G wv gv (.slice s1 n1 c1) want got p1.q) := by rw [hV8]; exact (((HT3.out.set 0 (.int .i64 p1.o)).set 1 (.bool p1.b)).set 2 (.slice s1 n1 c1)).set 3 (.int .i64 p1.l)
            have HG8 : Hid (Blk V8 G [.int .i64 p1.o, .bool p1.b, .slice s1 n1 c1, .int .i64 p1.l] 36) := by rw [hV8]; exact (((HG3.out.set 0 (.int .i64 p1.o)).set 1 (.bool p1.b)).set 2 (.slice s1 n1 c1)).set 3 (.int .i64 p1.l)
            have HB8 : Hid (Below w.heap.size w V8) := by rw [hV8]; exact below_set1' (below_set1' (below_set1' (below_set1' HB3.out G 0 _ HGW.out) G 1 _ HGW.out) G 2 _ HGW.out) G 3 _ HGW.out
            rw [← hV8]
            clear hV8
            have HWL1 : Hid (want.length ≤ next + 1) := by have := HWL.out; exact hid (by omega)
            have HNX : Hid (next + 1 ≤ N) := hid (by omega)
            have hcast : ((next : Int) + 1) = ((next + 1 : Nat) : Int) := by omega
            rw [hcast]
            clear hcast hnl' hnl0 hnl HWL hx0 hx6
            generalize next + 1 = next1 at *
            generalize want = want1 at *
            generalize paid = paid1 at *
            generalize wv = wv1 at *
            have HGD1 := HGD
            have HPS1 := HPSa
            have HGX := HG8
            clear HGD HPSa HT3 HG3 HB3 HA3)
      case' neg =>
        have HPSa : Hid (max (U p - 1) 0 + 4 * ((N : Int) - ((next : Nat) : Int)) ≤ max (4 * (N : Int) - ((turn : Int) + 1)) 0) := by have := HPS.out; exact hid (by omega)
        have hnl' : ((next : Int) < (N : Int)) = False := by simp; omega
        go_upto_region 20 with fail
        have HT8 := HTR
        have HGX := HPL
        have HB8 := HB
        have HN1 := HN
        have HGD1 := HGD
        have HPS1 := HPSa
        have HWL1 := HWL
        have HNX : Hid (next ≤ N) := hid hnext
        clear hnl' hnl hnext HTR HPL HB HN HGD HPSa HWL
        generalize wr = V8 at *
        generalize p = p1 at *
        generalize s = s1 at *
        generalize n = n1 at *
        generalize c = c1 at *
        generalize next = next1 at *
        generalize want = want1 at *
        generalize paid = paid1 at *
        generalize wv = wv1 at *
      all_goals (
        have HNL1 : Hid (n1 ≤ 3) := by have := HGD1.out.len; have := HN1.out; exact hid (by omega)
        have HPL1 : Hid (I64 p1.l) := by have := HGD1.out.l; unfold I64; exact hid (by omega)
        have d0 : V8.cell? ⟨G, 0, none⟩ = some (.int .i64 p1.o) := HGX.out.cell 0
        have d1 : V8.cell? ⟨G, 1, none⟩ = some (.bool p1.b) := HGX.out.cell 1
        have d2 : V8.cell? ⟨G, 2, none⟩ = some (.slice s1 n1 c1) := HGX.out.cell 2
        have d3 : V8.cell? ⟨G, 3, none⟩ = some (.int .i64 p1.l) := HGX.out.cell 3
        go_wp2_with fail
        refine Calls.mono (h16.out p1 V8 s1 n1 c1 HT8.out.q.1 HN1.out HNL1.out HPL1.out) ?_
        rintro e V9 ⟨s2, n2, c2, hn2, rfl, hr2, hb9⟩
        have HN2 := hid hn2
        have HT9 := hid (HT8.out.queue hb9 hr2)
        have HG9 := hid (HGX.out.below hb9 HGX.out.lt)
        have HB9 := hid (HB8.out.trans (hb9.mono HB8.out.size))
        have HWK := hid (gd_work HGD1.out)
        clear hn2 hr2 hb9 d0 d1 d2 d3 HT8 HGX HB8 HN1 HNL1 HPL1
        have HP2L : Hid (n2 ≤ 3) := by have h1 := HN2.out; rw [wk_q] at h1; have := HGD1.out.len; exact hid (by omega)
        clear HGD1
        generalize wkV p1 = v at *
        generalize wk p1 = p2 at *
        go_upto_region 21 with fail
        obtain ⟨V10, hV10⟩ : ∃ x, x = V9.alloc (.cells #[.int .i64 p2.o, .bool p2.b, .slice s2 n2 c2, .int .i64 p2.l] 36) := ⟨_, rfl⟩
        obtain ⟨A3, hA3⟩ : ∃ x, x = V9.heap.size := ⟨_, rfl⟩
        have hb10 : Below V9.heap.size V9 V10 := by rw [hV10]; exact (Below.refl _ _).alloc (Nat.le_refl _) _
        have HA10 : Hid (Blk V10 A3 [.int .i64 p2.o, .bool p2.b, .slice s2 n2 c2, .int .i64 p2.l] 36) := by rw [hV10]; exact Blk.new' _ _ _ _ hA3
        have HT10 := hid (HT9.out.below hb10)
        have HG10 := hid (HG9.out.below hb10 HG9.out.lt)
        have HB10 := hid (HB9.out.trans (hb10.mono HB9.out.size))
        rw [← hV10, ← hA3]
        clear hV10 hA3 hb10 HT9 HG9 HB9
        have a0 : V10.cell? ⟨A3, 0, none⟩ = some (.int .i64 p2.o) := HA10.out.cell 0
        have a1 : V10.cell? ⟨A3, 1, none⟩ = some (.bool p2.b) := HA10.out.cell 1
        have a2 : V10.cell? ⟨A3, 2, none⟩ = some (.slice s2 n2 c2) := HA10.out.cell 2
        have a3 : V10.cell? ⟨A3, 3, none⟩ = some (.int .i64 p2.l) := HA10.out.cell 3
        have g0 : V10.cell? ⟨G, 0, none⟩ = some (.int .i64 p1.o) := HG10.out.cell 0
        have g1 : V10.cell? ⟨G, 1, none⟩ = some (.bool p1.b) := HG10.out.cell 1
        have g2 : V10.cell? ⟨G, 2, none⟩ = some (.slice s1 n1 c1) := HG10.out.cell 2
        have g3 : V10.cell? ⟨G, 3, none⟩ = some (.int .i64 p1.l) := HG10.out.cell 3
        have gf := HG10.out.frozen
        go_upto_region 22 with fail
        clear a0 a1 a2 a3 g0 g1 g2 g3 gf HA10
        obtain ⟨V11, hV11⟩ : ∃ x, x = ((((V10.setCell ⟨G, 0, none⟩ (.int .i64 p2.o)).setCell ⟨G, 1, none⟩ (.bool p2.b)).setCell ⟨G, 2, none⟩ (.slice s2 n2 c2)).setCell ⟨G, 3, none⟩ (.int .i64 p2.l)) := ⟨_, rfl⟩
        have HT11 : Hid (Tri V11 G wv1 gv (.slice s2 n2 c2) want1 got p2.q) := by rw [hV11]; exact (((HT10.out.set 0 (.int .i64 p2.o)).set 1 (.bool p2.b)).set 2 (.slice s2 n2 c2)).set 3 (.int .i64 p2.l)
        have HG11 : Hid (Blk V11 G [.int .i64 p2.o, .bool p2.b, .slice s2 n2 c2, .int .i64 p2.l] 36) := by rw [hV11]; exact (((HG10.out.set 0 (.int .i64 p2.o)).set 1 (.bool p2.b)).set 2 (.slice s2 n2 c2)).set 3 (.int .i64 p2.l)
        have HB11 : Hid (Below w.heap.size w V11) := by rw [hV11]; exact below_set1' (below_set1' (below_set1' (below_set1' HB10.out G 0 _ HGW.out) G 1 _ HGW.out) G 2 _ HGW.out) G 3 _ HGW.out
        rw [← hV11]
        clear hV11
        clear HT10 HG10 HB10
        rcases HWK.out with ⟨hv, hgd, hu⟩ | ⟨hv, hv64, hpe, hgd, hu⟩
        case' inl =>
          have hv0 : (0 < v) = False := by simp; omega
          have HGD2 := hid hgd
          have HPS2 : Hid (U p2 + 4 * ((N : Int) - (next1 : Int)) ≤ max (4 * (N : Int) - ((turn + 1 : Nat) : Int)) 0) := by have := HPS1.out; exact hid (by omega)
          clear hv hgd hu HWK
          go_wp2
          go_roundw
          case rel => exact ⟨p2, paid1, want1, got, next1, turn + 1, s2, n2, c2, rfl, rfl, by simp, by omega, HNX.out, HG11, HN2, HT11, HGD2, HPS2, HWL1, HB11⟩
          case measure => simp [intOf]; omega
        case' inr =>
          have HGD2 := hid hgd
          have HPS2 : Hid (U (pp p2) + 4 * ((N : Int) - (next1 : Int)) ≤ max (4 * (N : Int) - ((turn + 1 : Nat) : Int)) 0) := by have := HPS1.out; exact hid (by omega)
          have HGL : Hid (got.length + [v].length ≤ 1000000000) := by
            have h1 := hgd.wq
            have h2 := congrArg List.length h1
            simp only [List.length_append, List.length_cons, List.length_nil] at h2
            have := HWL1.out
            have := HNX.out
            exact hid (by simp only [List.length_cons, List.length_nil]; omega)
          clear hgd hu HWK
          have h18p := hid (h18.out p2)
          rw [hpe] at h18p
          obtain ⟨V12, hV12⟩ : ∃ x, x = V11.alloc (.cells #[.int .i64 v] 3) := ⟨_, rfl⟩
          have hb12 : Below V11.heap.size V11 V12 := by rw [hV12]; exact (Below.refl _ _).alloc (Nat.le_refl _) _
          have HT12 := hid (HT11.out.below hb12)
          have HG12 := hid (HG11.out.below hb12 HG11.out.lt)
          have HB12 := hid (HB11.out.trans (hb12.mono HB11.out.size))
          have HI12 : Hid (IntsAt V12 (.slice (some ⟨V11.heap.size, 0, none⟩) 1 1) [v]) := by rw [hV12]; exact ints_one V11 (.int .i64 v) v rfl
          have HO12 := hid HT12.out.g
          have HSL2 : Hid (G + 1 ≤ V12.heap.size) := hid HT12.out.lt
          have HK2 : Hid ([v] ≠ []) := hid (by simp)
          rw [hV12] at HI12 HO12 HSL2
          have HVE2 := hid (fun (_ : Nat) => hV12)
          clear hV12 hb12 HT11 HG11 HB11 hpe hv64
          go_upto_region 24 with (first
            | ((at_builtin); (refine wpL_appendN (G + 1) gv (.slice (some ⟨V11.heap.size, 0, none⟩) 1 1) got [v] HK2.out ?_ ?_ HO12.out HI12.out HGL.out HSL2.out ?_); (rfl); (rfl); (intro gv1 V13 ho13 hg13); (rw [← HVE2.out 0] at hg13); (have HT13 := hid (HT12.out.growG hg13 ho13)); (have HG13 := hid (hg13.blk HG12.out HT12.out.hitG)); (have HB13 := hid (HB12.out.trans ((hg13.below HT12.out.g HT12.out.lt).mono (by have := HGW.out; omega)))); (clear ho13 hg13); (simp only [Act.put, List.setIfInBounds_toArray, List.set_cons_zero, List.set_cons_succ])))
          clear HT12 HG12 HB12 HO12 HI12 HSL2 HVE2 HK2
          have g0 : V13.cell? ⟨G, 0, none⟩ = some (.int .i64 p2.o) := HG13.out.cell 0
          have g1 : V13.cell? ⟨G, 1, none⟩ = some (.bool p2.b) := HG13.out.cell 1
          have g2 : V13.cell? ⟨G, 2, none⟩ = some (.slice s2 n2 c2) := HG13.out.cell 2
          have g3 : V13.cell? ⟨G, 3, none⟩ = some (.int .i64 p2.l) := HG13.out.cell 3
          go_wp2_with fail
          refine Calls.mono (h18p.out V13 s2 n2 c2 HT13.out.q.1 HN2.out HP2L.out) ?_
          rintro e V14 ⟨s3, n3, c3, hn3, rfl, hr3, hb14⟩
          have HN3 := hid hn3
          have HT14 := hid (HT13.out.queue hb14 hr3)
          have HG14 := hid (HG13.out.below hb14 HG13.out.lt)
          have HB14 := hid (HB13.out.trans (hb14.mono HB13.out.size))
          clear hn3 hr3 hb14 g0 g1 g2 g3 HT13 HG13 HB13 h18p
          generalize pp p2 = p3 at *
          go_upto_region 25 with fail
          obtain ⟨V15, hV15⟩ : ∃ x, x = V14.alloc (.cells #[.int .i64 p3.o, .bool p3.b, .slice s3 n3 c3, .int .i64 p3.l] 36) := ⟨_, rfl⟩
          obtain ⟨A4, hA4⟩ : ∃ x, x = V14.heap.size := ⟨_, rfl⟩
          have hb15 : Below V14.heap.size V14 V15 := by rw [hV15]; exact (Below.refl _ _).alloc (Nat.le_refl _) _
          have HA15 : Hid (Blk V15 A4 [.int .i64 p3.o, .bool p3.b, .slice s3 n3 c3, .int .i64 p3.l] 36) := by rw [hV15]; exact Blk.new' _ _ _ _ hA4
          have HT15 := hid (HT14.out.below hb15)
          have HG15 := hid (HG14.out.below hb15 HG14.out.lt)
          have HB15 := hid (HB14.out.trans (hb15.mono HB14.out.size))
          rw [← hV15, ← hA4]
          clear hV15 hA4 hb15 HT14 HG14 HB14
          have a0 : V15.cell? ⟨A4, 0, none⟩ = some (.int .i64 p3.o) := HA15.out.cell 0
          have a1 : V15.cell? ⟨A4, 1, none⟩ = some (.bool p3.b) := HA15.out.cell 1
          have a2 : V15.cell? ⟨A4, 2, none⟩ = some (.slice s3 n3 c3) := HA15.out.cell 2
          have a3 : V15.cell? ⟨A4, 3, none⟩ = some (.int .i64 p3.l) := HA15.out.cell 3
          have g0 : V15.cell? ⟨G, 0, none⟩ = some (.int .i64 p2.o) := HG15.out.cell 0
          have g1 : V15.cell? ⟨G, 1, none⟩ = some (.bool p2.b) := HG15.out.cell 1
          have g2 : V15.cell? ⟨G, 2, none⟩ = some (.slice s2 n2 c2) := HG15.out.cell 2
          have g3 : V15.cell? ⟨G, 3, none⟩ = some (.int .i64 p2.l) := HG15.out.cell 3
          have gf := HG15.out.frozen
          go_wp2
          go_roundw
          case rel => exact ⟨p3, paid1, want1, got ++ [v], next1, turn + 1, s3, n3, c3, rfl, rfl, by simp, by omega, HNX.out, (((HG15.out.set 0 (.int .i64 p3.o)).set 1 (.bool p3.b)).set 2 (.slice s3 n3 c3)).set 3 (.int .i64 p3.l), HN3, (((HT15.out.set 0 (.int .i64 p3.o)).set 1 (.bool p3.b)).set 2 (.slice s3 n3 c3)).set 3 (.int .i64 p3.l), HGD2, HPS2, HWL1, below_set1' (below_set1' (below_set1' (below_set1' HB15.out G 0 _ HGW.out) G 1 _ HGW.out) G 2 _ HGW.out) G 3 _ HGW.out⟩
          case measure => simp [intOf]; omega)
    · obtain rfl : turn = 12 * (N + 1) := by omega
      have wr1 : wrap64 (12 * ((N : Int) + 1)) = 12 * ((N : Int) + 1) := by unfold wrap64; omega
      have hlt' : (((12 * (N + 1) : Nat) : Int) < 12 * ((N : Int) + 1)) = False := by simp
      have hq : p.q = [] := by
        have h1 := HPS.out
        have h2 := U_nonneg HGD.out
        exact h2.2.1 (by omega)
      have HWG : Hid (want = got) := by have := HGD.out.wq; rw [hq, List.append_nil] at this; exact this
      have HLN : Hid (n = 0) := by have := HN.out; rw [hq] at this; exact this
      have HO1 := hid HGD.out.o
      have HO2 := hid HGD.out.o0
      have HWB : Hid (want.length ≤ 300) := by have := HWL.out; exact hid (by omega)
      have HPB : Hid (0 ≤ paid ∧ paid ≤ 65535) := by have h1 := HGD.out.o; have h2 := HGD.out.o0; have h3 := HGD.out.pd; exact hid (by omega)
      have hTR := HTR.out
      have e1 := HLN.out
      subst e1
      have e2 := HWG.out
      subst e2
      obtain ⟨pw, cw, hpw⟩ := hTR.w.form
      obtain ⟨pg, cg, hpg⟩ := hTR.g.form
      subst hpw
      subst hpg
      have HWI := hid (fun W' (h : Below wr.heap.size wr W') => (hTR.w.below h).ints)
      have HGI := hid (fun W' (h : Below wr.heap.size wr W') => (hTR.g.below h).ints)
      clear hTR HTR HGD HWL HPS HN HWG HLN hq h16 h18 h10 h14 h8 HZZ HZ
      obtain ⟨L, hL⟩ : ∃ L, L = want.length := ⟨_, rfl⟩
      rw [← hL] at HWI HGI HWB ⊢
      have hLN : (L : Int) ≤ 1000000 := by have := HWB.out; omega
      have wr2 : wrap64 (ore - paid) = ore - paid := by have := HPB.out; unfold wrap64; omega
      have ho1 : p.o = ore - paid := HO1.out
      have g0 : wr.cell? ⟨G, 0, none⟩ = some (.int .i64 (ore - paid)) := by rw [← ho1]; exact HPL.out.cell 0
      have g2 : wr.cell? ⟨G, 2, none⟩ = some (.slice s 0 c) := HPL.out.cell 2
      have hneg : (ore - paid < 0) = False := by have := HO2.out; rw [ho1] at this; simp; omega
      clear hL ho1 HO1 HO2 HPB
      go_upto_region 31 with fail
      clear g0 g2 hneg wr1 wr2 hlt'
      go_loopw [19] (fun iv w5 => ∃ i : Nat, iv = .int .i64 (i : Int) ∧ i ≤ L ∧ Hid (Below wr.heap.size wr w5)) (fun iv _ => L - (intOf iv).toNat)
      case atStart => exact ⟨0, rfl, by omega, Below.refl _ _⟩
      case round =>
        obtain ⟨i, rfl, hi, HBB⟩ := hrel
        by_cases hlt : i < L
        · obtain ⟨sb, so, rfl, hc⟩ := (HWI.out _ HBB.out).pos i hlt
          obtain ⟨sb', so', rfl, hc'⟩ := (HGI.out _ HBB.out).pos i hlt
          have z0 : ∀ n, (World.drewN _ n).cell? ⟨sb, so + i, none⟩ = some (.int .i64 (want.getD i 0)) := fun n => hc i hlt
          have z1 : ∀ n, (World.drewN _ n).cell? ⟨sb', so' + i, none⟩ = some (.int .i64 (want.getD i 0)) := fun n => hc' i hlt
          generalize want.getD i 0 = z at *
          have hl' : (i : Int) < (L : Int) := by omega
          have hl0 : (0 : Int) ≤ (i : Int) := by omega
          clear hc hc'
          go_upto_region 33 with fail
          go_quiet (fail)
          all_goals go_wp2
          all_goals exact ⟨⟨i + 1, by simp, by omega, Below.drewN HBB.out _⟩, by simp [intOf]; omega⟩
        · obtain rfl : i = L := by omega
          have hl' : ((i : Int) < (i : Int)) = False := by simp
          go_wp2
          go_ret
          exact ⟨rfl, HB.out.trans (HBB.out.mono HB.out.size)⟩
end Go.Proofs.Ytjkcmedmojidgaa
