/- Merge 16, and the reference's 17. -/
import Derived.Test.YteijncfnifebjaaAwake
namespace Go.Proofs.Yteijncfnifebjaa
open Go.RowKit
def orL (xs ys : List Bool) : List Bool := List.zipWith (· || ·) xs ys
def mergeV (xs ys : List Bool) : List Bool := if xs.length = ys.length then orL xs ys else []
def mergeE (xs ys : List Bool) : Int := if xs.length = ys.length then 0 else 2
theorem orL_length {xs ys : List Bool} (h : xs.length = ys.length) : (orL xs ys).length = xs.length := by unfold orL; rw [List.length_zipWith]; omega
theorem orL_get {xs ys : List Bool} (i : Nat) (h1 : i < xs.length) (h2 : i < ys.length) (h3 : i < (orL xs ys).length) : (orL xs ys)[i] = (xs[i] || ys[i]) := List.getElem_zipWith
theorem set_mid (a : List Value) (z v : Value) (l : List Value) {i : Nat} (h : a.length = i) : (a ++ z :: l).set i v = a ++ [v] ++ l := by
  subst h
  rw [List.set_append_right _ _ (Nat.le_refl _), Nat.sub_self, List.set_cons_zero]; simp
theorem made {w w1 : World} {t : TypeId} {M : Nat} {xs : List Value} (h : w1.ownsRow w.heap.size t 1 (.slice (some ⟨w.heap.size, 0, none⟩) M M) M xs) (hg : w.grownBy w1 none) : ∃ cur : List Value, Blk w1 w.heap.size cur t ∧ cur.length = M ∧ Below w.heap.size w w1 := by
  obtain ⟨_, ⟨hv, _⟩ | ⟨g, cap, cur, hv, _, hh, _, _, hs, _⟩⟩ := h
  · cases hv
  · simp at hv
    obtain ⟨rfl, rfl⟩ := hv
    exact ⟨cur.toList, by unfold Blk; simpa using hh, by simpa using hs, ⟨hg.os, hg.tape, hg.output, hg.size, fun k hk => hg.block k hk (by simp)⟩⟩
theorem wpL_makeB {ops : Array Oper} {rest : List Oper} {Q : Exit → Act → World → Prop} {a : Act} {w : World} {dd : Option Tmp} {l c : Operand} {tt : TypeId} {pos : String} {af : Array Edge} (M : Nat) (hM : M ≤ 1000000)
    (hl : a.eval l = .int .i64 (M : Int)) (hc : a.eval c = .int .i64 (M : Int))
    (h : ∀ w1 (cur : List Value), Blk w1 w.heap.size cur 4 → cur.length = M → Below w.heap.size w w1 → wpList Try.prog ops Q rest (a.put dd (.slice (some ⟨w.heap.size, 0, none⟩) M M)) w1) :
    wpList Try.prog ops Q ({ dst := dd, op := .makeSlice 30 l c, type := tt, pos := pos, after := af, guard := .none } :: rest) a w := by
  obtain ⟨i, hi, hz0, hz1, hz2⟩ := info_parts info4
  refine wpList_make_full w rfl l c 30 rfl w.heap.size 4 i (.bool false) 1 Try.underlying30 hi hz0 hz1 .i64 .i64 _ _ M hl hc rfl rfl (by rw [hz2]; omega) (by simp only [maxLen]; omega) (Nat.le_refl _) ?_
  intro w1 ho hg
  obtain ⟨cur, hcur, hsz, hb1⟩ := made ho hg
  exact h w1 cur hcur hsz hb1
theorem flatE_bool : ∀ xs : List Bool, flatE encB xs = xs.map Value.bool
  | [] => rfl
  | x :: xs => by
    have ih := flatE_bool xs
    unfold flatE encB at *
    rw [List.flatMap_cons, List.map_cons, ih]; rfl
theorem OwnR.ofBlk {w : World} {g base : Nat} {xs : List Bool} (h : Blk w g (xs.map Value.bool) 4) (hb : base ≤ g) (hn : xs.length ≤ 1000000) : OwnR encB 4 1 w base (.slice (some ⟨g, 0, none⟩) xs.length xs.length) xs := by
  have e := flatE_bool xs
  refine ⟨flatE_length layB xs, Or.inr ⟨g, xs.length, (xs.map Value.bool).toArray, rfl, hb, h, Nat.le_refl _, by simp only [maxLen]; omega, by simp, ?_⟩⟩
  rw [e, List.take_of_length_le (by simp)]
set_option maxRecDepth 20000 in
set_option maxHeartbeats 8000000 in
theorem merge_any (u v : Value) (xs ys : List Bool) (w : World) (h1 : RowAt encB 1 w u xs) (h2 : RowAt encB 1 w v ys) (hn : xs.length ≤ 10000) (hn2 : ys.length ≤ 10000) : Calls Try.prog 16 #[u, v] w fun e w' => OutB2 w (mergeV xs ys) (mergeE xs ys) e w' := by
  have HX := hid (fun W (h : Below w.heap.size w W) => h1.below h)
  have HY := hid (fun W (h : Below w.heap.size w W) => h2.below h)
  obtain ⟨p, c, rfl⟩ := h1.form
  obtain ⟨q, d, rfl⟩ := h2.form
  unfold OutB2
  by_cases hN : xs.length = ys.length
  · have e1 : mergeV xs ys = orL xs ys := if_pos hN
    have e2 : mergeE xs ys = 0 := if_pos hN
    rw [e1, e2]
    have HG := hid (fun i a b c => @orL_get xs ys i a b c)
    have hl := orL_length hN
    generalize orL xs ys = zs at *
    obtain ⟨N, hNx⟩ : ∃ N, N = xs.length := ⟨_, rfl⟩
    rw [← hNx] at HX hN hn hl ⊢
    rw [← hN] at HY ⊢
    have HN := hid (fun (_ : Nat) => And.intro hNx hN)
    have HL := hid (fun (_ : Nat) => hl)
    have hnn : (N : Int) ≤ 10000 := by omega
    clear h1 h2 hN hNx e1 e2 hl hn2
    go_enter Try.func16, Try.ntmps16
    go_upto_region 4 with (first
      | ((with_reducible refine wpL_makeB N (by omega) ?_ ?_ ?_); (rfl); (rfl); (intro w1 cur hb hc hbe); (have HB0 := hid hb; have HC0 := hid hc; have HBE := hid hbe; clear hb hc hbe); (simp only [Act.put, List.setIfInBounds_toArray, List.set_cons_zero, List.set_cons_succ])))
    obtain ⟨g, hg⟩ : ∃ g, g = w.heap.size := ⟨_, rfl⟩
    have HGW := hid (fun (_ : Nat) => hg)
    rw [← hg] at HB0 HBE HX HY ⊢
    clear hg
    go_wp2_with fail
    go_loopw [18] (fun iv wr => ∃ i : Nat, i ≤ N ∧ iv = .int .i64 (i : Int) ∧ Hid (Below g w wr) ∧ ∃ l : List Value, l.length + i = N ∧ Hid (Blk wr g ((zs.take i).map Value.bool ++ l) 4)) (fun iv _ => N - (intOf iv).toNat)
    case atStart => exact ⟨0, by omega, rfl, HBE, cur, HC0.out, HB0⟩
    case round =>
      clear HB0 HC0 HBE
      obtain ⟨i, hi, rfl, HB, l, hl, HO⟩ := hrel
      by_cases hlt : i < N
      · obtain ⟨hx, sb, so, rfl, hsb, hcell⟩ := RowAt.pos layB (HX.out wr HB.out) i hlt
        obtain ⟨hy, sb', so', rfl, hsb', hcell'⟩ := RowAt.pos layB (HY.out wr HB.out) i hlt
        have c0 : wr.cell? ⟨sb, so + i, none⟩ = some (.bool xs[i]) := by have := hcell 0 _ rfl; rwa [Nat.mul_one, Nat.add_zero] at this
        have c1 : wr.cell? ⟨sb', so' + i, none⟩ = some (.bool ys[i]) := by have := hcell' 0 _ rfl; rwa [Nat.mul_one, Nat.add_zero] at this
        have hz : i < zs.length := by have := HL.out 0; omega
        have hzi := hid (HG.out i hx hy hz)
        have HTK : Hid ((zs.take (i + 1)).map Value.bool = (zs.take i).map Value.bool ++ [.bool zs[i]]) := by rw [List.take_succ_eq_append_getElem hz, List.map_append]; rfl
        have htl : ((zs.take i).map Value.bool).length = i := by simp; omega
        cases l with
        | nil => simp at hl; omega
        | cons z l =>
        have hc2 : wr.cell? ⟨g, i, none⟩ = some z := by
          rw [HO.out.cell, List.getElem?_append_right (by omega), htl, Nat.sub_self]; rfl
        have hf2 := HO.out.frozen i
        have e2 : (i : Int) < (N : Int) := by omega
        have e3 : (0 : Int) ≤ (i : Int) := by omega
        have HSET : Hid (∀ u, Blk (wr.setCell ⟨g, i, none⟩ u) g ((zs.take i).map Value.bool ++ [u] ++ l) 4) := fun u => by
          have := HO.out.set i u
          rwa [set_mid _ _ _ _ htl] at this
        have HBS : Hid (∀ u, Below g w (wr.setCell ⟨g, i, none⟩ u)) := fun u => HB.out.trans ⟨rfl, rfl, rfl, by simp, fun k hk => Below.heap_setCell _ _ _ _ (show k ≠ g by omega)⟩
        have HLL : Hid (l.length + (i + 1) = N) := by simp only [List.length_cons] at hl; exact hid (by omega)
        clear hcell hcell' hsb hsb' HO HB htl HG hl
        generalize zs[i] = Z at *
        generalize xs[i] = X at *
        generalize ys[i] = Y at *
        have hZ : Z = (X || Y) := hzi
        subst hZ
        rcases X with _ | _
        all_goals
          go_wp2
          exact ⟨⟨i + 1, by omega, by simp, HBS.out _, l, HLL.out, by rw [HTK.out]; exact HSET.out _⟩, by simp [intOf]; omega⟩
      · obtain rfl : i = N := by omega
        have ht : zs.take i = zs := by rw [← HL.out 0, List.take_length]
        have hl0 : l = [] := by cases l with | nil => rfl | cons a l => simp at hl
        rw [ht, hl0, List.append_nil] at HO
        have ho := OwnR.ofBlk (base := w.heap.size) HO.out (by rw [HGW.out 0]; exact Nat.le_refl _) (by have := HL.out 0; omega)
        rw [HL.out 0] at ho
        have HOO := hid ho
        clear ho HL hl0 hl
        go_wp2
        go_ret2
        exact ⟨_, rfl, HOO.out, by rw [← HGW.out 0]; exact HB.out⟩
  · have e1 : mergeV xs ys = [] := if_neg hN
    have e2 : mergeE xs ys = 2 := if_neg hN
    rw [e1, e2]
    generalize xs.length = N at *
    generalize ys.length = M at *
    have hne : ((N : Int) == (M : Int)) = false := by simp; omega
    go_enter Try.func16, Try.ntmps16
    go_wp2
    go_ret2
    exact ⟨_, rfl, OwnR.nil _ _ _ _ _, Below.refl _ _⟩
set_option maxRecDepth 20000 in
set_option maxHeartbeats 8000000 in
theorem refMerge_any (u v : Value) (xs ys : List Bool) (w : World) (h1 : RowAt encB 1 w u xs) (h2 : RowAt encB 1 w v ys) (hn : xs.length ≤ 10000) (hn2 : ys.length ≤ 10000) : Calls Try.prog 17 #[u, v] w fun e w' => OutB2 w (mergeV xs ys) (mergeE xs ys) e w' := by
  have HX := hid (fun W (h : Below w.heap.size w W) => h1.below h)
  have HY := hid (fun W (h : Below w.heap.size w W) => h2.below h)
  obtain ⟨p, c, rfl⟩ := h1.form
  obtain ⟨q, d, rfl⟩ := h2.form
  unfold OutB2
  by_cases hN : xs.length = ys.length
  · have e1 : mergeV xs ys = orL xs ys := if_pos hN
    have e2 : mergeE xs ys = 0 := if_pos hN
    rw [e1, e2]
    have HG := hid (fun i a b c => @orL_get xs ys i a b c)
    have hl := orL_length hN
    generalize orL xs ys = zs at *
    obtain ⟨N, hNx⟩ : ∃ N, N = xs.length := ⟨_, rfl⟩
    rw [← hNx] at HX hN hn hl ⊢
    rw [← hN] at HY ⊢
    have HL := hid (fun (_ : Nat) => hl)
    have hnn : (N : Int) ≤ 10000 := by omega
    clear h1 h2 hN hNx e1 e2 hl hn2
    go_enter Try.func17, Try.ntmps17
    go_wp2_with fail
    go_loopw [7, 6] (fun iv sv wr => ∃ i : Nat, i ≤ N ∧ iv = .int .i64 (i : Int) ∧ Hid (Below w.heap.size w wr) ∧ Hid (OwnR encB 4 1 wr w.heap.size sv (zs.take i))) (fun iv _ _ => N - (intOf iv).toNat)
    case atStart => exact ⟨0, by omega, rfl, hid (Below.refl _ _), OwnR.nil _ _ _ _ _⟩
    case round =>
      obtain ⟨i, hi, rfl, HB, HO⟩ := hrel
      by_cases hlt : i < N
      · obtain ⟨hx, sb, so, rfl, hsb, hcell⟩ := RowAt.pos layB (HX.out wr HB.out) i hlt
        obtain ⟨hy, sb', so', rfl, hsb', hcell'⟩ := RowAt.pos layB (HY.out wr HB.out) i hlt
        have c0 : wr.cell? ⟨sb, so + i, none⟩ = some (.bool xs[i]) := by have := hcell 0 _ rfl; rwa [Nat.mul_one, Nat.add_zero] at this
        have c1 : wr.cell? ⟨sb', so' + i, none⟩ = some (.bool ys[i]) := by have := hcell' 0 _ rfl; rwa [Nat.mul_one, Nat.add_zero] at this
        have hz : i < zs.length := by have := HL.out 0; omega
        have hzi := hid (HG.out i hx hy hz)
        have HTK : Hid (zs.take (i + 1) = zs.take i ++ [zs[i]]) := List.take_succ_eq_append_getElem hz
        have htl : (zs.take i).length = i := by rw [List.length_take]; omega
        obtain ⟨p0, cap0, rfl⟩ := HO.out.form
        rw [htl] at HO ⊢
        have e2 : (i : Int) < (N : Int) := by omega
        have e3 : (0 : Int) ≤ (i : Int) := by omega
        obtain ⟨R, hR⟩ : ∃ R, R = zs[i] := ⟨_, rfl⟩
        rw [← hR] at HTK hzi
        have HLE : Hid ((zs.take i).length + [R].length = i + 1) := by rw [htl]; exact hid rfl
        obtain ⟨U, hU⟩ : ∃ U, U = wr.alloc (.cells #[Value.bool R] 4) := ⟨_, rfl⟩
        have HUB : Hid (Below wr.heap.size wr U) := by rw [hU]; exact (Below.refl _ _).alloc (Nat.le_refl _) _
        have HUG : Hid (RowAt encB 1 U (.slice (some ⟨wr.heap.size, 0, none⟩) 1 1) [R]) := by rw [hU]; exact RowAt.one _ _ _ _ rfl
        have HBU := hid (HB.out.trans (HUB.out.mono HB.out.size))
        have HOU := hid (HO.out.below HUB.out)
        have HDU : Hid (w.heap.size ≤ U.heap.size) := hid HBU.out.size
        rw [hU] at HUG HBU HOU HDU
        clear hcell hcell' hsb hsb' hU HUB HO HB htl HG hR
        generalize zs.take i = ts at *
        generalize xs[i] = X at *
        generalize ys[i] = Y at *
        have hZ : R = (X || Y) := hzi
        subst hZ
        rcases X with _ | _
        · rw [Bool.false_or] at *
          go_wp2_with (first
            | ((with_reducible refine wpL_appendR layB Try.underlying30 info4 rfl (by omega) w.heap.size (.slice p0 i cap0) (.slice (some ⟨wr.heap.size, 0, none⟩) 1 1) ts [Y] (i + 1) (by simp) HLE.out ?_ ?_ HOU.out HUG.out (by omega) HDU.out ?_); (rfl); (rfl); (intro p5 c5 w6 ho6 hg6); (have HB6 := hid (HBU.out.trans (hg6.belowR HOU.out HDU.out)); rw [← HTK.out] at ho6; have HO6 := hid ho6; clear ho6 hg6); (simp only [Act.put, List.setIfInBounds_toArray, List.set_cons_zero, List.set_cons_succ])))
          exact ⟨⟨i + 1, by omega, by simp, HB6, HO6⟩, by simp [intOf]; omega⟩
        · rw [Bool.true_or] at *
          go_wp2_with (first
            | ((with_reducible refine wpL_appendR layB Try.underlying30 info4 rfl (by omega) w.heap.size (.slice p0 i cap0) (.slice (some ⟨wr.heap.size, 0, none⟩) 1 1) ts [true] (i + 1) (by simp) HLE.out ?_ ?_ HOU.out HUG.out (by omega) HDU.out ?_); (rfl); (rfl); (intro p5 c5 w6 ho6 hg6); (have HB6 := hid (HBU.out.trans (hg6.belowR HOU.out HDU.out)); rw [← HTK.out] at ho6; have HO6 := hid ho6; clear ho6 hg6); (simp only [Act.put, List.setIfInBounds_toArray, List.set_cons_zero, List.set_cons_succ])))
          exact ⟨⟨i + 1, by omega, by simp, HB6, HO6⟩, by simp [intOf]; omega⟩
      · obtain rfl : i = N := by omega
        have ht : zs.take i = zs := by rw [← HL.out 0, List.take_length]
        rw [ht] at HO
        go_wp2
        go_ret2
        exact ⟨_, rfl, HO.out, HB.out⟩
  · have e1 : mergeV xs ys = [] := if_neg hN
    have e2 : mergeE xs ys = 2 := if_neg hN
    rw [e1, e2]
    generalize xs.length = N at *
    generalize ys.length = M at *
    have hne : ((N : Int) == (M : Int)) = false := by simp; omega
    go_enter Try.func17, Try.ntmps17
    go_wp2
    go_ret2
    exact ⟨_, rfl, OwnR.nil _ _ _ _ _, Below.refl _ _⟩
end Go.Proofs.Yteijncfnifebjaa
