/- Which cells may not be gone through: closed. -/
import Derived.Test.YtemcbonmlmobkaaFmap
import Derived.Test.YtemcbonmlmobkaaWay
import Derived.StillTailTactics
namespace Go.Proofs.Ytemcbonmlmobkaa
open Go.RowKit
/-- Blocked, or one of the first j tiles, which is Rock. -/
def shutB (m : Mp) (bl : List Cl) (k j : Nat) (c : Cl) : Bool := (bl.take k).contains c || (List.range j).any fun i => m.ts.getD i 0 == 1 && c == ((i : Int) % m.W, (i : Int) / m.W)
def shutF (m : Mp) (bl : List Cl) (k j : Nat) : Cl → Option Value := fun c => if shutB m bl k j c then some (.agg #[]) else none
theorem shutF_bl {m : Mp} {bl : List Cl} {k : Nat} (hk : k < bl.length) : putF (shutF m bl k 0) (bl.getD k (0, 0)) (.agg #[]) = shutF m bl (k + 1) 0 := by
  funext c
  unfold putF shutF shutB
  have e : bl.take (k + 1) = bl.take k ++ [bl.getD k (0, 0)] := by
    rw [List.take_add_one, List.getD_eq_getElem?_getD, List.getElem?_eq_getElem hk]; rfl
  rw [e]
  generalize bl.getD k (0, 0) = x
  by_cases h : c = x <;> simp [h]
theorem shutF_rock {m : Mp} {bl : List Cl} {k j : Nat} (h : m.ts.getD j 0 = 1) : putF (shutF m bl k j) ((j : Int) % m.W, (j : Int) / m.W) (.agg #[]) = shutF m bl k (j + 1) := by
  funext c
  unfold putF shutF shutB
  rw [List.range_succ, List.any_append]
  by_cases hc : c = ((j : Int) % m.W, (j : Int) / m.W)
  · rw [if_pos hc, hc]; simp only [List.any_cons, List.any_nil, h]; simp
  · rw [if_neg hc]
    have : (c == ((j : Int) % m.W, (j : Int) / m.W)) = false := by simpa using hc
    simp only [List.any_cons, List.any_nil, this]; simp
theorem shutF_free {m : Mp} {bl : List Cl} {k j : Nat} (h : (m.ts.getD j 0 == 1) = false) : shutF m bl k j = shutF m bl k (j + 1) := by
  funext c
  unfold shutF shutB
  rw [List.range_succ, List.any_append]
  simp only [List.any_cons, List.any_nil, h]; simp
theorem shutF_is {m : Mp} {bl : List Cl} (hf : formed m = true) {c : Cl} (hc : inn m c = true) : (shutF m bl bl.length m.ts.length c).isSome = !pass m bl c := by
  have hp := holds_of hc
  obtain ⟨f1, f2, f3, f4, _⟩ := formed_of hf
  have hq := place_lt f1 f2 hp
  have hr : (List.range m.ts.length).any (fun i => m.ts.getD i 0 == 1 && c == ((i : Int) % m.W, (i : Int) / m.W)) = rock m c.1 c.2 := by
    unfold rock
    rw [Bool.eq_iff_iff, List.any_eq_true]
    constructor
    · rintro ⟨i, hi, h⟩
      rw [Bool.and_eq_true, beq_iff_eq, beq_iff_eq] at h
      rw [h.2, beq_iff_eq]
      simp only
      have : (i : Int) / m.W * m.W + (i : Int) % m.W = i := by rw [Int.mul_comm]; exact Int.mul_ediv_add_emod _ _
      rw [this]; exact h.1
    · intro h
      refine ⟨(c.2 * m.W + c.1).toNat, by rw [List.mem_range]; omega, ?_⟩
      rw [h, Bool.true_and, beq_iff_eq]
      have e : ((c.2 * m.W + c.1).toNat : Int) = c.2 * m.W + c.1 := by omega
      rw [e]
      refine Prod.ext ?_ ?_
      · show c.1 = (c.2 * m.W + c.1) % m.W
        rw [Int.mul_add_emod_self_right, Int.emod_eq_of_lt hp.1 hp.2.1]
      · show c.2 = (c.2 * m.W + c.1) / m.W
        rw [Int.add_comm, Int.add_mul_ediv_right _ _ (by omega), Int.ediv_eq_zero_of_lt hp.1 hp.2.1, Int.zero_add]
  unfold shutF shutB
  rw [hr, List.take_length]
  unfold pass
  rw [hc, Bool.true_and]
  cases rock m c.1 c.2 <;> cases bl.contains c <;> rfl
/-- A call answers a map of its own that holds f. -/
def OutF (w : World) (f : Cl → Option Value) (e : Ending) (w' : World) : Prop := ∃ b, e = .returned (.map (some b)) ∧ w.heap.size ≤ b ∧ FMap w' b f ∧ Below w.heap.size w w'
set_option maxHeartbeats 4000000 in
theorem closed_any (m : Mp) (v u : Value) (bl : List Cl) (w : World) (hm : MapAt w v m) (hb : CellsAt w u bl) (hf : formed m = true) (hN : bl.length ≤ 1000) : Calls Try.prog 34 #[v, u] w fun e w' => OutF w (shutF m bl bl.length m.ts.length) e w' := by
  obtain ⟨f1, f2, f3, f4, -⟩ := formed_of hf
  have hp := prod_bound f1 f2
  obtain ⟨p, c, q, d, rfl, hT, hO⟩ := hm
  obtain ⟨sb, so, rfl, hc⟩ := hT.pos 0 (by omega)
  obtain ⟨r, rc, rfl, hcell⟩ := hb
  have HT : Hid (∀ W, Below w.heap.size w W → ∀ i, i < m.ts.length → W.cell? ⟨sb, so + i, none⟩ = some (.int .i64 (m.ts.getD i 0))) := fun W h i hi => by rw [h.cell (p := ⟨sb, so + i, none⟩) (lt_of_cell (hc i hi))]; exact hc i hi
  have HB : Hid (∀ W, Below w.heap.size w W → ∀ i, i < bl.length → ∃ rb ro, r = some ⟨rb, ro, none⟩ ∧ W.cell? ⟨rb, ro + i * 2, none⟩ = some (.int .i64 (bl.getD i (0, 0)).1) ∧ W.cell? ⟨rb, ro + i * 2 + 1, none⟩ = some (.int .i64 (bl.getD i (0, 0)).2)) := fun W h i hi => by
    obtain ⟨rb, ro, e, h2⟩ := hcell (by intro h0; subst h0; simp at hi)
    obtain ⟨h3, h4⟩ := h2 i hi
    exact ⟨rb, ro, e, by rw [h.cell (p := ⟨rb, ro + i * 2, none⟩) (lt_of_cell h3)]; exact h3, by rw [h.cell (p := ⟨rb, ro + i * 2 + 1, none⟩) (lt_of_cell h4)]; exact h4⟩
  have HM1 : Hid (∀ j, m.ts.getD j 0 = 1 → putF (shutF m bl bl.length j) ((j : Int) % m.W, (j : Int) / m.W) (.agg #[]) = shutF m bl bl.length (j + 1)) := fun j h => shutF_rock h
  have HM2 : Hid (∀ j, (m.ts.getD j 0 == 1) = false → shutF m bl bl.length j = shutF m bl bl.length (j + 1)) := fun j h => shutF_free h
  have HM3 : Hid (∀ k, k < bl.length → putF (shutF m bl k 0) (bl.getD k (0, 0)) (.agg #[]) = shutF m bl (k + 1) 0) := fun k h => shutF_bl h
  have HM4 : Hid ((fun _ => none) = shutF m bl 0 0) := by funext c; simp [shutF, shutB]
  obtain ⟨F, hF⟩ : ∃ F, F = shutF m bl := ⟨_, rfl⟩
  rw [← hF] at HM1 HM2 HM3 HM4 ⊢
  clear hF
  unfold OutF
  obtain ⟨a, b, ts, os⟩ := m
  simp only at HT HM1 HM2 f1 f2 f3 f4 hp ⊢
  have hM : ts.length ≤ 400 := by omega
  clear hT hO hc hcell f3 f4 hf
  obtain ⟨M, hMe⟩ : ∃ M, M = ts.length := ⟨_, rfl⟩
  obtain ⟨N, hNe⟩ : ∃ N, N = bl.length := ⟨_, rfl⟩
  obtain ⟨K, hKe⟩ : ∃ K, K = os.length := ⟨_, rfl⟩
  rw [← hMe] at HT hM ⊢
  rw [← hNe] at HB HM1 HM2 HM3 hN ⊢
  rw [← hKe]
  obtain ⟨tf, htf⟩ : ∃ tf : Nat → Int, tf = fun i => ts.getD i 0 := ⟨_, rfl⟩
  have HTF := hid (fun i => congrFun htf i)
  obtain ⟨bf, hbf⟩ : ∃ bf : Nat → Cl, bf = fun i => bl.getD i (0, 0) := ⟨_, rfl⟩
  have HBF := hid (fun i => congrFun hbf i)
  simp only [← HTF.out] at HT HM1 HM2
  simp only [← HBF.out] at HB HM3
  clear hMe hNe hKe htf hbf HTF HBF
  have hmm := @run_makeMap Try.prog
  go_enter Try.func34, Try.ntmps34
  go_upto_region 3 with fail
  obtain ⟨W, hW⟩ : ∃ W, W = (w.alloc (.cells #[Value.int .i64 a, .int .i64 b, .slice (some ⟨sb, so, none⟩) M c, .slice q K d] 24)).alloc (.map #[] 0) := ⟨_, rfl⟩
  obtain ⟨B, hBe⟩ : ∃ B, B = w.heap.size := ⟨_, rfl⟩
  rw [← hW, ← hBe]
  have hsz : W.heap.size = B + 2 := by rw [hW, hBe]; simp
  have HBE : Hid (∀ w', Below (B + 1) W w' → Below B w w') := by
    intro w' h
    have h1 : Below w.heap.size w W := by rw [hW]; exact ((Below.refl _ _).alloc (Nat.le_refl _) _).alloc (by simp) _
    rw [← hBe] at h1
    exact h1.trans (h.mono (by omega))
  have hbk : Blk W B [Value.int .i64 a, .int .i64 b, .slice (some ⟨sb, so, none⟩) M c, .slice q K d] 24 := by rw [hW, hBe]; exact (Blk.new _ _ _).alloc _
  have HK : Hid (∀ w', Below (B + 1) W w' → w'.cell? ⟨B, 0, none⟩ = some (.int .i64 a) ∧ w'.cell? ⟨B, 2, none⟩ = some (.slice (some ⟨sb, so, none⟩) M c)) := fun w' h => by
    have := hbk.below h (by omega)
    exact ⟨this.cell 0, this.cell 2⟩
  have HF0 : Hid (FMap W (B + 1) (F 0 0)) := by
    have := FMap.new (w.alloc (.cells #[Value.int .i64 a, .int .i64 b, .slice (some ⟨sb, so, none⟩) M c, .slice q K d] 24))
    rw [← hW, HM4.out] at this
    simp only [World.size_alloc] at this
    rw [← hBe] at this
    exact this
  have HB0 := hid (Below.refl (B + 1) W)
  rw [← hBe] at HT HB
  have HBe := hid (fun (_ : Nat) => hBe)
  clear hW hBe hbk HM4 hmm
  go_loopw [13] (fun iv wr => ∃ k : Nat, k ≤ N ∧ iv = .int .i64 (k : Int) ∧ Hid (Below (B + 1) W wr) ∧ Hid (FMap wr (B + 1) (F k 0))) (fun iv _ => N - (intOf iv).toNat)
  case atStart => exact ⟨0, by omega, rfl, HB0, HF0⟩
  case round =>
    clear HB0 HF0
    obtain ⟨k, hk, rfl, HB1, HF1⟩ := hrel
    by_cases hl : k < N
    · have hl' : (k : Int) < (N : Int) := by omega
      obtain ⟨rb, ro, rfl, d0, d1⟩ := HB.out wr (HBE.out wr HB1.out) k hl
      have HM5 := hid (HM3.out k hl)
      obtain ⟨x, hx⟩ : ∃ x, x = (bf k).1 := ⟨_, rfl⟩
      obtain ⟨y, hy⟩ : ∃ y, y = (bf k).2 := ⟨_, rfl⟩
      rw [← hx] at d0
      rw [← hy] at d1
      rw [show bf k = (x, y) from Prod.ext hx.symm hy.symm] at HM5
      clear hx hy
      obtain ⟨V, hV⟩ : ∃ V, V = wr.alloc (.cells #[Value.int .i64 x, .int .i64 y] 27) := ⟨_, rfl⟩
      obtain ⟨g, hg⟩ : ∃ g, g = wr.heap.size := ⟨_, rfl⟩
      have HVB : Hid (Below g wr V) := by rw [hV, hg]; exact (Below.refl _ _).alloc (Nat.le_refl _) _
      have HVG : Hid (Blk V g [.int .i64 x, .int .i64 y] 27) := by rw [hV, hg]; exact Blk.new _ _ _
      have hgB : B + 2 ≤ g := by have := HB1.out.size; omega
      have HBV := hid (HB1.out.trans (HVB.out.mono (by omega)))
      have HFV := hid (HF1.out.below HVB.out (by omega))
      go_upto_region 5 with fail
      rw [← hV, ← hg]
      have g0 : V.cell? ⟨g, 0, none⟩ = some (.int .i64 x) := HVG.out.cell 0
      have g1 : V.cell? ⟨g, 1, none⟩ = some (.int .i64 y) := HVG.out.cell 1
      clear hV hg HVB HB1 HF1 d0 d1
      go_wp2_with (at_mapUpdate; (with_reducible refine wpL_upd 61 Try.underlying59 (B + 1) (F k 0) x y (.agg #[]) ?_ ?_ ?_ HFV.out ?_); (rfl); (rfl); (rfl); (intro w2 hf2 ht2); (rw [HM5.out] at hf2); (have HB2 := hid (HBV.out.trans (ht2.below (Nat.le_refl _))); have HF2 := hid hf2; clear hf2 ht2))
      go_roundw
      case rel => exact ⟨k + 1, by omega, by simp, HB2, HF2⟩
      case measure => simp [intOf]; omega
    · obtain rfl : k = N := by omega
      have hl' : ((k : Int) < (k : Int)) = False := by simp
      obtain ⟨a0, a2⟩ := HK.out wr HB1.out
      have HB2 := HB1
      have HF2 := HF1
      have hM0 : (0 : Int) ≤ (M : Int) := by omega
      clear HB HM3 hl hl' hk
      go_upto_region 8 with fail
      go_loopw [24] (fun iv wr => ∃ j : Nat, j ≤ M ∧ iv = .int .i64 (j : Int) ∧ Hid (Below (B + 1) W wr) ∧ Hid (FMap wr (B + 1) (F k j))) (fun iv _ => M - (intOf iv).toNat)
      case atStart => exact ⟨0, by omega, rfl, HB2, HF2⟩
      case round =>
        clear HB1 HF1 HB2 HF2 a0 a2
        obtain ⟨j, hj, rfl, HB3, HF3⟩ := hrel
        by_cases hl : j < M
        · have hl' : (j : Int) < (M : Int) := by omega
          have d0 := HT.out _ (HBE.out _ HB3.out) j hl
          obtain ⟨a0, a2⟩ := HK.out _ HB3.out
          have HN1 := hid (HM1.out j)
          have HN2 := hid (HM2.out j)
          generalize tf j = tl at *
          by_cases h1 : tl = 1
          · subst h1
            have HN3 := hid (HN1.out rfl)
            have ha0 : (0 : Int) < a := by omega
            go_upto_region 11 with fail
            have hj0 : (0 : Int) ≤ (j : Int) := by omega
            have hz : (a = 0) = False := by simp; omega
            have ht1 : (j : Int).tmod a = (j : Int) % a := Int.tmod_eq_emod_of_nonneg hj0
            have ht2 : (j : Int).tdiv a = (j : Int) / a := Int.tdiv_eq_ediv_of_nonneg hj0
            have hq1 : 0 ≤ (j : Int) / a := Int.ediv_nonneg hj0 (by omega)
            have hq2 : (j : Int) / a ≤ 9223372036854775807 := by have := Int.ediv_le_self a hj0; omega
            obtain ⟨x, hx⟩ : ∃ x, x = (j : Int) % a := ⟨_, rfl⟩
            obtain ⟨y, hy⟩ : ∃ y, y = (j : Int) / a := ⟨_, rfl⟩
            rw [← hx] at ht1 HN3
            rw [← hy] at ht2 hq1 hq2 HN3
            clear hx hy HN1 HN2
            have hwy : IntKind.i64.wrap y = y := by rw [IntKind.wrap_i64]; omega
            go_still_tail 11, (by kernel_rfl)
            go_wp2_with (at_mapUpdate; (with_reducible refine wpL_upd 61 Try.underlying59 (B + 1) (F k j) x y (.agg #[]) ?_ ?_ ?_ ?_ ?_); (rfl); (rfl); (rfl); (exact HF3.out); (intro w2 hf2 ht2); (replace ht2 := ht2.undrew); (rw [HN3.out] at hf2); (have HB4 := hid (HB3.out.trans (ht2.below (Nat.le_refl _))); have HF4 := hid hf2; clear hf2 ht2))
            go_roundw
            case rel => exact ⟨j + 1, by omega, by simp, HB4, HF4⟩
            case measure => simp [intOf]; omega
          · have g1 : (tl == 1) = false := by simpa using h1
            have HN3 := hid (HN2.out g1)
            rw [HN3.out] at HF3
            clear HN1 HN2 HN3
            go_wp2
            go_roundw
            case rel => exact ⟨j + 1, by omega, by simp, HB3, HF3⟩
            case measure => simp [intOf]; omega
        · obtain rfl : j = M := by omega
          have hl' : ((j : Int) < (j : Int)) = False := by simp
          go_wp2
          go_ret
          rw [← HBe.out 0]
          exact ⟨B + 1, rfl, by omega, HF3.out, HBE.out _ HB3.out⟩
end Go.Proofs.Ytemcbonmlmobkaa
