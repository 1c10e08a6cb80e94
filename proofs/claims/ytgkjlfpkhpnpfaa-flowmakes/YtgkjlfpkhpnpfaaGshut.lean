/- Which cells nobody may come to: closed. -/
import Derived.Test.YtgkjlfpkhpnpfaaGset
namespace Go.Proofs.Ytgkjlfpkhpnpfaa
open Go.RowKit
/-- The set of what is shut, without the goals that left does not hold. -/
def cutF (F : Cl → Option Value) (gs : List Cl) (left : Cl → Bool) : Cl → Option Value := fun c => if gs.contains c && !left c then none else F c
theorem cutF_begin (F : Cl → Option Value) (gs : List Cl) : cutF F gs (fun c => (setF gs gs.length c).isSome) = F := by
  funext c
  unfold cutF setF
  rw [List.take_length]
  cases h : gs.contains c with
  | false => rfl
  | true => rw [if_neg (by simp only [Bool.true_and]; rw [h]; simp)]
theorem cutF_next {F : Cl → Option Value} {gs : List Cl} {left : Cl → Bool} {c : Cl} (hc : c ∈ gs) : dropF (cutF F gs left) c = cutF F gs (fun z => left z && !(z == c)) := by
  funext d
  unfold dropF cutF
  by_cases h : d = c
  · subst h
    rw [if_pos rfl, if_pos (by simp [hc])]
  · have h2 : (d == c) = false := by simpa using h
    rw [if_neg h]
    simp [h2]
theorem setF_mem {gs : List Cl} {c : Cl} {v : Value} (h : setF gs gs.length c = some v) : c ∈ gs := by
  unfold setF at h
  rw [List.take_length] at h
  split at h
  · rename_i h1; simpa using h1
  · cases h
/-- What is shut, of a field. -/
def shutG (m : Mp) (bl gs : List Cl) : Cl → Option Value := cutF (shutF m bl bl.length m.ts.length) gs fun _ => false
theorem shutG_is {m : Mp} {bl gs : List Cl} (hf : formed m = true) {c : Cl} (hc : inn m c = true) : (shutG m bl gs c).isSome = !opn m bl gs c := by
  have h := shutF_is (bl := bl) hf hc
  unfold shutG cutF opn
  cases hg : gs.contains c with
  | true => rfl
  | false => simpa using h
theorem shutG_get (m : Mp) (bl gs : List Cl) (c : Cl) : (shutG m bl gs c).getD (.agg #[]) = .agg #[] := by
  unfold shutG cutF shutF
  split
  · rfl
  · split <;> rfl
theorem shutF_begin (m : Mp) (bl : List Cl) : setF bl bl.length = shutF m bl bl.length 0 := by
  funext c
  unfold setF shutF shutB
  simp
set_option maxHeartbeats 4000000 in
theorem closedG_any (m : Mp) (v u : Value) (bl gs : List Cl) (be : Nat) (w : World) (hm : MapAt w v m) (hb : CellsAt w u bl) (hg : FMap w be (setF gs gs.length)) (hf : formed m = true) (hN : bl.length ≤ 1000) : Calls Try.prog 26 #[v, u, .map (some be)] w fun e w' => OutF w (shutG m bl gs) e w' := by
  obtain ⟨f1, f2, f3, f4, -⟩ := formed_of hf
  have hp := prod_bound f1 f2
  have h24 : Hid (∀ W, Below w.heap.size w W → Calls Try.prog 24 #[u] W fun e w' => OutF W (shutF m bl bl.length 0) e w') := fun W h => by
    rw [← shutF_begin]; exact setOf_any u bl W (hb.below h) hN
  have hbe := hg.lt
  have HGE : Hid (∀ W, Below w.heap.size w W → FMap W be (setF gs gs.length)) := fun W h => hg.below h hbe
  have HGM : Hid (∀ c z, setF gs gs.length c = some z → c ∈ gs) := fun c z h => setF_mem h
  have HC0 := hid (cutF_begin (shutF m bl bl.length m.ts.length) gs)
  have HC1 : Hid (∀ left c, c ∈ gs → dropF (cutF (shutF m bl bl.length m.ts.length) gs left) c = cutF (shutF m bl bl.length m.ts.length) gs (fun z => left z && !(z == c))) := fun left c h => cutF_next h
  have HC2 : Hid (shutG m bl gs = cutF (shutF m bl bl.length m.ts.length) gs fun _ => false) := hid rfl
  obtain ⟨p, c, q, d, rfl, hT, hO⟩ := hm
  obtain ⟨sb, so, rfl, hc⟩ := hT.pos 0 (by omega)
  obtain ⟨r, rc, rfl, -⟩ := hb
  have HT : Hid (∀ W, Below w.heap.size w W → ∀ i, i < m.ts.length → W.cell? ⟨sb, so + i, none⟩ = some (.int .i64 (m.ts.getD i 0))) := fun W h i hi => by rw [h.cell (p := ⟨sb, so + i, none⟩) (lt_of_cell (hc i hi))]; exact hc i hi
  have HM1 : Hid (∀ j, m.ts.getD j 0 = 1 → putF (shutF m bl bl.length j) ((j : Int) % m.W, (j : Int) / m.W) (.agg #[]) = shutF m bl bl.length (j + 1)) := fun j h => shutF_rock h
  have HM2 : Hid (∀ j, (m.ts.getD j 0 == 1) = false → shutF m bl bl.length j = shutF m bl bl.length (j + 1)) := fun j h => shutF_free h
  obtain ⟨F, hF⟩ : ∃ F, F = shutF m bl bl.length := ⟨_, rfl⟩
  rw [← hF] at HM1 HM2 h24 HC0 HC1 HC2
  obtain ⟨SG, hSG⟩ : ∃ SG, SG = shutG m bl gs := ⟨_, rfl⟩
  rw [← hSG] at HC2 ⊢
  obtain ⟨S, hS⟩ : ∃ S, S = setF gs gs.length := ⟨_, rfl⟩
  rw [← hS] at HGE HGM HC0
  clear hF hSG hS hg
  unfold OutF at h24 ⊢
  obtain ⟨a, b, ts, os⟩ := m
  simp only at HT HM1 HM2 HC0 HC1 HC2 h24 f1 f2 f3 f4 hp ⊢
  have hM : ts.length ≤ 400 := by omega
  clear hT hO hc f3 f4 hf
  obtain ⟨M, hMe⟩ : ∃ M, M = ts.length := ⟨_, rfl⟩
  obtain ⟨N, hNe⟩ : ∃ N, N = bl.length := ⟨_, rfl⟩
  obtain ⟨K, hKe⟩ : ∃ K, K = os.length := ⟨_, rfl⟩
  rw [← hMe] at HT hM HC0 HC1 HC2 ⊢
  rw [← hNe] at h24 hN ⊢
  rw [← hKe]
  obtain ⟨tf, htf⟩ : ∃ tf : Nat → Int, tf = fun i => ts.getD i 0 := ⟨_, rfl⟩
  have HTF := hid (fun i => congrFun htf i)
  simp only [← HTF.out] at HT HM1 HM2
  clear hMe hNe hKe htf HTF
  go_enter Try.func26, Try.ntmps26
  go_upto_region 1 with fail
  obtain ⟨W, hW⟩ : ∃ W, W = w.alloc (.cells #[Value.int .i64 a, .int .i64 b, .slice (some ⟨sb, so, none⟩) M c, .slice q K d] 24) := ⟨_, rfl⟩
  obtain ⟨B, hBe⟩ : ∃ B, B = w.heap.size := ⟨_, rfl⟩
  rw [← hW, ← hBe]
  have hsz : W.heap.size = B + 1 := by rw [hW, hBe]; simp
  have HBE : Hid (∀ w', Below (B + 1) W w' → Below B w w') := by
    intro w' h
    have h1 : Below w.heap.size w W := by rw [hW]; exact (Below.refl _ _).alloc (Nat.le_refl _) _
    rw [← hBe] at h1
    exact h1.trans (h.mono (by omega))
  have hbk : Blk W B [Value.int .i64 a, .int .i64 b, .slice (some ⟨sb, so, none⟩) M c, .slice q K d] 24 := by rw [hW, hBe]; exact Blk.new _ _ _
  have HK : Hid (∀ w', Below (B + 1) W w' → w'.cell? ⟨B, 0, none⟩ = some (.int .i64 a) ∧ w'.cell? ⟨B, 2, none⟩ = some (.slice (some ⟨sb, so, none⟩) M c)) := fun w' h => by
    have := hbk.below h (by omega)
    exact ⟨this.cell 0, this.cell 2⟩
  rw [← hBe] at HT h24 HGE hbe
  have HBe := hid (fun (_ : Nat) => hBe)
  have HB0 := hid (Below.refl (B + 1) W)
  clear hW hBe hbk
  go_upto_region 2 with (refine Calls.mono (h24.out _ (HBE.out W HB0.out)) ?_; rintro e w1 ⟨D, rfl, hD, hFD, hbw1⟩)
  rw [hsz] at hD hbw1
  have HB1 := hid hbw1
  have HF1 := hid hFD
  obtain ⟨a0, a2⟩ := HK.out _ HB1.out
  have HBD : Hid (Below D w1 w1) := hid (Below.refl D w1)
  have HBT : Hid (∀ w', Below D w1 w' → Below (B + 1) W w') := fun w' h => HB1.out.trans (h.mono hD)
  clear hbw1 hFD HB0 h24
  have hM0 : (0 : Int) ≤ (M : Int) := by omega
  go_upto_region 3 with fail
  clear a0 a2
  go_loopw [16] (fun iv wr => ∃ j : Nat, j ≤ M ∧ iv = .int .i64 (j : Int) ∧ Hid (Below D w1 wr) ∧ Hid (FMap wr D (F j))) (fun iv _ => M - (intOf iv).toNat)
  case atStart => exact ⟨0, by omega, rfl, HBD, HF1⟩
  case round =>
    clear HBD HF1
    obtain ⟨j, hj, rfl, HB3, HF3⟩ := hrel
    by_cases hl : j < M
    · have hl' : (j : Int) < (M : Int) := by omega
      have d0 := HT.out _ (HBE.out _ (HBT.out _ HB3.out)) j hl
      obtain ⟨a0, a2⟩ := HK.out _ (HBT.out _ HB3.out)
      have HN1 := hid (HM1.out j)
      have HN2 := hid (HM2.out j)
      generalize tf j = tl at *
      by_cases h1 : tl = 1
      · subst h1
        have HN3 := hid (HN1.out rfl)
        have ha0 : (0 : Int) < a := by omega
        go_upto_region 6 with fail
        have hj0 : (0 : Int) ≤ (j : Int) := by omega
        have hz : (a = 0) = False := by simp; omega
        have ht1 : (j : Int).tmod a = (j : Int) % a := Int.tmod_eq_emod_of_nonneg hj0
        have ht2 : (j : Int).tdiv a = (j : Int) / a := Int.tdiv_eq_ediv_of_nonneg hj0
        have hq1 : 0 ≤ (j : Int) / a := Int.ediv_nonneg hj0 (by omega)
        have hq2 : (j : Int) / a ≤ 9223372036854775807 := by have := Int.ediv_le_self a hj0; omega
        obtain ⟨x, hx⟩ : ∃ x, x = (j : Int) % a := ⟨_, rfl⟩
        obtain ⟨y, hy⟩ : ∃ y, y = (j : Int) / a := ⟨_, rfl⟩
        rw [← hx] at ht1 HN3
        rw [← hy] at ht2 hq1 hq2 HN3
        clear hx hy HN1 HN2
        have hwy : IntKind.i64.wrap y = y := by rw [IntKind.wrap_i64]; omega
        go_still_tail 11, (by kernel_rfl)
        go_wp2_with (at_mapUpdate; (with_reducible refine wpL_upd 70 Try.underlying51 D (F j) x y (.agg #[]) ?_ ?_ ?_ ?_ ?_); (rfl); (rfl); (rfl); (exact HF3.out); (intro w2 hf2 ht2); (replace ht2 := ht2.undrew); (rw [HN3.out] at hf2); (have HB4 := hid (HB3.out.trans (ht2.below (Nat.le_refl _))); have HF4 := hid hf2; clear hf2 ht2))
        go_roundw
        case rel => exact ⟨j + 1, by omega, by simp, HB4, HF4⟩
        case measure => simp [intOf]; omega
      · have g1 : (tl == 1) = false := by simpa using h1
        have HN3 := hid (HN2.out g1)
        rw [HN3.out] at HF3
        clear HN1 HN2 HN3
        go_wp2
        go_roundw
        case rel => exact ⟨j + 1, by omega, by simp, HB3, HF3⟩
        case measure => simp [intOf]; omega
    · obtain rfl : j = M := by omega
      have hl' : ((j : Int) < (j : Int)) = False := by simp
      have HGR := hid (HGE.out _ (HBE.out _ (HBT.out _ HB3.out)))
      clear HT HM1 HM2
      go_upto_region 9 with (at_range; (with_reducible refine wpL_range 70 Try.underlying51 be S ?_ HGR.out ?_); (rfl); (intro w3 hi3 hb3 hs3))
      go_frame
      have HI3 := hid hi3
      obtain ⟨R, hR⟩ : ∃ R, R = wr.heap.size := ⟨_, rfl⟩
      rw [← hR] at hi3 hb3 ⊢
      have hDR : D < R := by rw [hR]; exact HF3.out.lt
      have HF4 : Hid (FMap w3 D (cutF (F j) gs fun c => (S c).isSome)) := by rw [HC0.out]; exact hid (HF3.out.below hb3 hDR)
      have HI4 := hid hi3
      have HB4 : Hid (Below D w1 w3) := HB3.out.trans (hb3.mono (by omega))
      clear hi3 hb3 hs3 HI3 hR HB3 HF3 HC0 HGR
      go_loopw [] (fun wr => ∃ left, Hid (Below D w1 wr) ∧ Hid (FIter wr be R S left) ∧ Hid (FMap wr D (cutF (F j) gs left))) (fun wr => wr.rangeLeft be R)
      case atStart => exact ⟨_, HB4, HI4, HF4⟩
      case round =>
        clear HB4 HI4 HF4
        obtain ⟨left, HB5, HI5, HF5⟩ := hrel
        go_wp2_with (at_next; (with_reducible refine wpL_next be R S left ?_ HI5.out ?_ ?_); (rfl))
        · intro hl
          have e : left = fun _ => false := funext hl
          subst e
          rw [← HC2.out] at HF5
          go_wp2
          go_ret
          rw [← HBe.out 0]
          exact ⟨D, rfl, by omega, HF5.out, HBE.out _ (HBT.out _ HB5.out)⟩
        · intro x y z w6 hlx hsx hi6 hm6 ht6 hen
          have hgx := HGM.out _ _ hsx
          have HC3 := hid (HC1.out left (x, y) hgx)
          clear hsx hgx
          have hRw : R < w6.heap.size := hi6.lt.2.1
          have hbR : be < R := by omega
          obtain ⟨V, hV⟩ : ∃ V, V = w6.alloc (.cells #[Value.int .i64 x, .int .i64 y] 37) := ⟨_, rfl⟩
          obtain ⟨g, hg⟩ : ∃ g, g = w6.heap.size := ⟨_, rfl⟩
          have HVB : Hid (Below g w6 V) := by rw [hV, hg]; exact (Below.refl _ _).alloc (Nat.le_refl _) _
          have HVG : Hid (Blk V g [.int .i64 x, .int .i64 y] 37) := by rw [hV, hg]; exact Blk.new _ _ _
          have HBV : Hid (Below D w1 V) := HB5.out.trans ((ht6.below (by omega)).trans (HVB.out.mono (by omega)))
          have HIV : Hid (FIter V be R S fun q => left q && !(q == (x, y))) := hi6.below HVB.out (by omega) (by omega)
          have HFV : Hid (FMap V D (cutF (F j) gs left)) := (HF5.out.keep (ht6.block D (by omega))).below HVB.out (by omega)
          have HMV : Hid (V.rangeLeft be R < wr.rangeLeft be R) := by
            rw [rangeLeft_keep (HVB.out.block be (by omega)) (HVB.out.block R (by omega))]; exact hid hm6
          clear ht6 hi6 hm6 HB5 HI5 HF5
          go_upto_region 11 with fail
          rw [← hV, ← hg]
          have g0 : V.cell? ⟨g, 0, none⟩ = some (.int .i64 x) := HVG.out.cell 0
          have g1 : V.cell? ⟨g, 1, none⟩ = some (.int .i64 y) := HVG.out.cell 1
          clear hV hg HVB hen
          go_wp2_with (at_delete; (with_reducible refine wpL_del 70 Try.underlying51 D (cutF (F j) gs left) x y ?_ ?_ HFV.out ?_); (rfl); (rfl); (intro w7 hf7 ht7))
          rw [HC3.out] at hf7
          simp only [Act.put]
          go_roundw
          case rel => exact ⟨_, hid (HBV.out.trans (ht7.below (Nat.le_refl _))), hid (HIV.out.keep (ht7.block be (by omega)) (ht7.block R (by omega))), hid hf7⟩
          case measure =>
            rw [rangeLeft_keep (ht7.block be (by omega)) (ht7.block R (by omega))]
            exact HMV.out
end Go.Proofs.Ytgkjlfpkhpnpfaa
