/- Line. -/
import Derived.Test.YteijncfnifebjaaLine
import Derived.Test.YteijncfnifebjaaOwn
import Derived.StillTailTactics
namespace Go.Proofs.Yteijncfnifebjaa
open Go.RowKit
/-- v is a slice of the cells cs. -/
def CellsAt (w : World) (v : Value) (cs : List (Int × Int)) : Prop :=
  ∃ p cap, v = .slice p cs.length cap ∧ (cs ≠ [] → ∃ sb so, p = some ⟨sb, so, none⟩ ∧ ∀ i, i < cs.length → w.cell? ⟨sb, so + i * 2, none⟩ = some (.int .i64 (cs.getD i (0, 0)).1) ∧ w.cell? ⟨sb, so + i * 2 + 1, none⟩ = some (.int .i64 (cs.getD i (0, 0)).2))
theorem CellsAt.below {w w' : World} {v : Value} {cs : List (Int × Int)} (h : CellsAt w v cs) (hb : Below w.heap.size w w') : CellsAt w' v cs := by
  obtain ⟨p, cap, rfl, h⟩ := h
  refine ⟨p, cap, rfl, fun hn => ?_⟩
  obtain ⟨sb, so, rfl, hcell⟩ := h hn
  exact ⟨sb, so, rfl, fun i hi => by rw [hb.cell (p := ⟨sb, so + i * 2, none⟩) (lt_of_cell (hcell i hi).1), hb.cell (p := ⟨sb, so + i * 2 + 1, none⟩) (lt_of_cell (hcell i hi).2)]; exact hcell i hi⟩
/-- The cells of a line. -/
def lineOf (ax ay bx by_ : Int) : List (Int × Int) := (List.range ((far ax ay bx by_).toNat + 1)).map (cellAt ax ay bx by_)
def lineM (ax ay bx by_ : Int) : List (Int × Int) := if meas ax ay && meas bx by_ then lineOf ax ay bx by_ else []
def OutLine (w : World) (cs : List (Int × Int)) (e : Ending) (w' : World) : Prop := ∃ v, e = .returned v ∧ CellsAt w' v cs ∧ Below w.heap.size w w'
theorem info27 : (Try.prog.info? 27).map (fun i => (i.zero, i.size, i.bytes)) = some (some (.agg #[.int .i64 0, .int .i64 0]), 2, 16) := by kernel_rfl
/-- Block g has room for M cells; the first k hold f. -/
def LineTo (w : World) (g M k : Nat) (f : Nat → Int × Int) : Prop := ∃ cur : Array Value, w.heap[g]? = some (.cells cur 27 (0, 0)) ∧ cur.size = M * 2 ∧ ∀ j, j < k → cur[j * 2]? = some (.int .i64 (f j).1) ∧ cur[j * 2 + 1]? = some (.int .i64 (f j).2)
theorem LineTo.lt {w : World} {g M k : Nat} {f : Nat → Int × Int} (h : LineTo w g M k f) : g < w.heap.size := by
  obtain ⟨cur, h, _⟩ := h
  exact (Array.getElem?_eq_some_iff.1 h).1
theorem LineTo.cells {w : World} {g M k : Nat} {f : Nat → Int × Int} (h : LineTo w g M k f) (i : Nat) (hi : i < M) : (∃ v, w.cell? ⟨g, i * 2, none⟩ = some v) ∧ (∃ v, w.cell? ⟨g, i * 2 + 1, none⟩ = some v) ∧ w.frozen? ⟨g, i * 2, none⟩ = false ∧ w.frozen? ⟨g, i * 2 + 1, none⟩ = false := by
  obtain ⟨cur, h, hs, _⟩ := h
  rw [cell_of_row _ _ _ _ _ _ h, cell_of_row _ _ _ _ _ _ h]
  refine ⟨⟨cur[i * 2]'(by omega), by simp⟩, ⟨cur[i * 2 + 1]'(by omega), by simp⟩, by simp [World.frozen?, h], by simp [World.frozen?, h]⟩
theorem LineTo.step {w : World} {g M k : Nat} {f : Nat → Int × Int} (h : LineTo w g M k f) (hk : k < M) : LineTo ((w.setCell ⟨g, k * 2, none⟩ (.int .i64 (f k).1)).setCell ⟨g, k * 2 + 1, none⟩ (.int .i64 (f k).2)) g M (k + 1) f := by
  obtain ⟨cur, h, hs, hc⟩ := h
  refine ⟨(cur.setIfInBounds (k * 2) (.int .i64 (f k).1)).setIfInBounds (k * 2 + 1) (.int .i64 (f k).2), ?_, by simp [hs], fun j hj => ?_⟩
  · simp [World.setCell, Array.getElem?_modify, h]
  · simp only [Array.getElem?_setIfInBounds]
    rcases Nat.lt_or_ge j k with h1 | h1
    · rw [if_neg (by omega), if_neg (by omega), if_neg (by omega), if_neg (by omega)]
      exact hc j h1
    · obtain rfl : j = k := by omega
      rw [if_neg (by omega), if_pos rfl, if_pos (by omega), if_pos rfl, if_pos (by simp; omega)]
      exact ⟨rfl, rfl⟩
theorem LineTo.below {w w' : World} {g M k : Nat} {f : Nat → Int × Int} (h : LineTo w g M k f) (hb : w'.heap[g]? = w.heap[g]?) : LineTo w' g M k f := by
  obtain ⟨cur, h, r⟩ := h
  exact ⟨cur, hb.trans h, r⟩
theorem LineTo.done {w : World} {g M : Nat} {f : Nat → Int × Int} (h : LineTo w g M M f) : CellsAt w (.slice (some ⟨g, 0, none⟩) M M) ((List.range M).map f) := by
  refine ⟨some ⟨g, 0, none⟩, M, by simp, fun _ => ⟨g, 0, rfl, fun i hi => ?_⟩⟩
  obtain ⟨cur, h, _, hc⟩ := h
  have hi' : i < M := by simpa using hi
  rw [cell_of_row _ _ _ _ _ _ h, cell_of_row _ _ _ _ _ _ h, Nat.zero_add]
  have := hc i hi'
  simpa [hi'] using this
/-- make([]Cell, n), as the walk meets it. -/
theorem wpL_makeC {ops : Array Oper} {rest : List Oper} {Q : Exit → Act → World → Prop} {a : Act} {w : World} {dd : Option Tmp} {l c : Operand} {tt : TypeId} {pos : String} {af : Array Edge} (M : Nat) (hM : M ≤ 100000) (f : Nat → Int × Int)
    (hl : a.eval l = .int .i64 (M : Int)) (hc : a.eval c = .int .i64 (M : Int))
    (h : ∀ w1, LineTo w1 w.heap.size M 0 f → Below w.heap.size w w1 → wpList Try.prog ops Q rest (a.put dd (.slice (some ⟨w.heap.size, 0, none⟩) M M)) w1) :
    wpList Try.prog ops Q ({ dst := dd, op := .makeSlice 68 l c, type := tt, pos := pos, after := af, guard := .none } :: rest) a w := by
  obtain ⟨i, hi, hz0, hz1, hz2⟩ := info_parts info27
  refine wpList_make_full w rfl l c 68 rfl w.heap.size 27 i (.agg #[.int .i64 0, .int .i64 0]) 2 Try.underlying68 hi hz0 hz1 .i64 .i64 _ _ M hl hc rfl rfl (by rw [hz2]; omega) (by simp only [maxLen]; omega) (Nat.le_refl _) ?_
  intro w1 ho hg
  obtain ⟨_, ⟨hv, _⟩ | ⟨g, cap, cur, hv, _, hh, _, _, hs, _⟩⟩ := ho
  · cases hv
  · simp at hv
    obtain ⟨rfl, rfl⟩ := hv
    exact h w1 ⟨cur, hh, hs, fun j hj => by omega⟩ ⟨hg.os, hg.tape, hg.output, hg.size, fun k hk => hg.block k hk (by simp)⟩
set_option maxHeartbeats 4000000 in
theorem line_any (ax ay bx by_ : Int) (w : World) : Calls Try.prog 42 #[C ax ay, C bx by_] w fun e w' => OutLine w (lineM ax ay bx by_) e w' := by
  have h44 : Hid (∀ x y W, Calls Try.prog 39 #[C x y] W fun e w' => Out W (.bool (meas x y)) e w') := meas_any
  have h45 : Hid (∀ (a b : Int) (_ : -1000 ≤ a ∧ a ≤ 1000) (_ : -1000 ≤ b ∧ b ≤ 1000) W, Calls Try.prog 40 #[.int .i64 a, .int .i64 b] W fun e w' => e = .returned (.int .i64 (apt a b)) ∧ w' = W) := apart_any
  have h48 : Hid (∀ (a b k n : Int) (_ : -1000 ≤ a ∧ a ≤ 1000) (_ : -1000 ≤ b ∧ b ≤ 1000) (_ : 0 ≤ k ∧ k ≤ n) (_ : 0 < n ∧ n ≤ 2000) (W : World), Calls Try.prog 47 #[.int .i64 a, .int .i64 b, .int .i64 k, .int .i64 n] W fun e w' => e = .returned (.int .i64 (btw a b k n)) ∧ w' = W) := between_any
  unfold lineM OutLine
  rcases Bool.eq_false_or_eq_true (meas ax ay) with ha | ha
  · rcases Bool.eq_false_or_eq_true (meas bx by_) with hb | hb
    · have ka := meas_of ha
      have kb := meas_of hb
      have h1 := h45.out ax bx ⟨ka.1, ka.2.1⟩ ⟨kb.1, kb.2.1⟩
      have h2 := h45.out ay by_ ⟨ka.2.2.1, ka.2.2.2⟩ ⟨kb.2.2.1, kb.2.2.2⟩
      have hX : 0 ≤ apt ax bx ∧ apt ax bx ≤ 2000 := by unfold apt; omega
      have hY : 0 ≤ apt ay by_ ∧ apt ay by_ ≤ 2000 := by unfold apt; omega
      have e1 := h44.out ax ay
      have e2 := h44.out bx by_
      rw [ha] at e1
      rw [hb] at e2
      rw [ha, hb, Bool.true_and, if_pos rfl]
      have HF : Hid (far ax ay bx by_ = max (apt ax bx) (apt ay by_)) := rfl
      obtain ⟨L, hL⟩ : ∃ L, L = lineOf ax ay bx by_ := ⟨_, rfl⟩
      rw [← hL]
      have HL := hid (fun (_ : Nat) => hL)
      clear hL
      have HB1 : Hid (∀ k n : Nat, 0 < n → n ≤ 2000 → k ≤ n → ∀ W, Calls Try.prog 47 #[.int .i64 ax, .int .i64 bx, .int .i64 (k : Int), .int .i64 (n : Int)] W fun e w' => e = .returned (.int .i64 (btw ax bx k n)) ∧ w' = W) := fun k n h0 h1 h2 W => h48.out ax bx k n ⟨ka.1, ka.2.1⟩ ⟨kb.1, kb.2.1⟩ (by omega) (by omega) W
      have HB2 : Hid (∀ k n : Nat, 0 < n → n ≤ 2000 → k ≤ n → ∀ W, Calls Try.prog 47 #[.int .i64 ay, .int .i64 by_, .int .i64 (k : Int), .int .i64 (n : Int)] W fun e w' => e = .returned (.int .i64 (btw ay by_ k n)) ∧ w' = W) := fun k n h0 h1 h2 W => h48.out ay by_ k n ⟨ka.2.2.1, ka.2.2.2⟩ ⟨kb.2.2.1, kb.2.2.2⟩ (by omega) (by omega) W
      generalize apt ax bx = X at *
      generalize apt ay by_ = Y at *
      have H1 := hid h1
      have H2 := hid h2
      have E1 := hid e1
      have E2 := hid e2
      clear h1 h2 e1 e2 h44 h45 h48 ha hb ka kb
      obtain ⟨x1, x2⟩ := hX
      obtain ⟨y1, y2⟩ := hY
      unfold C at *
      go_enter Try.func42, Try.ntmps42
      go_upto_region 1 with (fail)
      obtain ⟨W, hW⟩ : ∃ W, W = (w.alloc (.cells #[Value.int .i64 ax, .int .i64 ay] 27)).alloc (.cells #[Value.int .i64 bx, .int .i64 by_] 27) := ⟨_, rfl⟩
      obtain ⟨B, hB⟩ : ∃ B, B = w.heap.size := ⟨_, rfl⟩
      rw [← hW, ← hB]
      obtain ⟨hk, hbe⟩ := two_boxes w ax ay bx by_ W B hW hB
      obtain ⟨a0, a1, a2, a3⟩ := hk W (Below.refl _ _)
      have HK := hid hk
      have HBE := hid hbe
      have HBS : Hid (B + 2 = W.heap.size) := by show _ = _; rw [hW, hB]; simp
      clear hW hB hk hbe
      go_wp2_with fail
      refine Calls.mono (E1.out _) ?_
      rintro e w1 ⟨rfl, hb1⟩
      obtain ⟨b0, b1, b2, b3⟩ := HK.out w1 hb1
      have HB1' := hid hb1
      clear hb1
      go_wp2_with fail
      refine Calls.mono (E2.out _) ?_
      rintro e w2 ⟨rfl, hb2⟩
      have HB2' := hid (HB1'.out.trans (hb2.mono HB1'.out.size))
      obtain ⟨c0, c1, c2, c3⟩ := HK.out w2 HB2'.out
      clear hb2
      go_upto_region 3 with (fail)
      go_quiet (first
        | (go_at_call 40; with_reducible exact Calls.quiet_of_same (H1.out _))
        | (go_at_call 40; with_reducible exact Calls.quiet_of_same (H2.out _)))
      obtain ⟨n, hn⟩ : ∃ n : Nat, (if X < Y then Y else X) = (n : Int) := ⟨(if X < Y then Y else X).toNat, by split <;> omega⟩
      have hn2 : n ≤ 2000 := by split at hn <;> omega
      have hfar : far ax ay bx by_ = (n : Int) := by rw [HF.out, ← hn]; split <;> omega
      have hL : L = (List.range (n + 1)).map (cellAt ax ay bx by_) := by rw [HL.out 0, lineOf, hfar, Int.toNat_natCast]
      subst hL
      rw [hn]
      obtain ⟨V, hV⟩ : ∃ V, V = w2.drewN nq := ⟨_, rfl⟩
      have HBV : Hid (Below W.heap.size W V) := by rw [hV]; exact Below.drewN HB2'.out nq
      rw [← hV]
      obtain ⟨d0, d1, d2, d3⟩ := HK.out V HBV.out
      have HCA : Hid (∀ k : Nat, cellAt ax ay bx by_ k = (btw ax bx k n, btw ay by_ k n)) := fun k => by rw [cellAt, hfar]
      clear hV a0 a1 a2 a3 b0 b1 b2 b3 c0 c1 c2 c3 HB1' HB2' hn HF HL hfar H1 H2 E1 E2 x1 x2 y1 y2
      by_cases h0 : n = 0
      · subst h0
        go_wp2
        go_ret
        have hc : cellAt ax ay bx by_ 0 = (ax, ay) := by have := HCA.out 0; simpa [btw] using this
        have hlt : LineTo (V.alloc (.cells #[Value.int .i64 ax, .int .i64 ay] 27)) V.heap.size 1 1 (cellAt ax ay bx by_) := ⟨#[.int .i64 ax, .int .i64 ay], heap_alloc_last _ _, rfl, fun j hj => by
          obtain rfl : j = 0 := by omega
          rw [hc]; exact ⟨rfl, rfl⟩⟩
        exact ⟨_, rfl, hlt.done, HBE.out _ (HBV.out.alloc HBV.out.size _)⟩
      · have h0' : ((n : Int) == 0) = false := by simp; omega
        have hM : n + 1 ≤ 100000 := by omega
        go_wp2_with (first
          | ((with_reducible refine wpL_makeC (n + 1) hM (cellAt ax ay bx by_) ?_ ?_ ?_); (simp [go_sem]); (simp [go_sem]); (intro w4 hl4 hb4); (have HL4 := hid hl4); (have HB4 := hid (HBV.out.trans (hb4.mono HBV.out.size))); (clear hl4 hb4); (simp only [Act.put, List.setIfInBounds_toArray, List.set_cons_zero, List.set_cons_succ])))
        obtain ⟨g, hg⟩ : ∃ g, V.heap.size = g := ⟨_, rfl⟩
        have HGW : Hid (W.heap.size ≤ g) := by rw [← hg]; exact HBV.out.size
        rw [hg] at HL4 ⊢
        clear hg d0 d1 d2 d3 HBV
        go_loopw [36] (fun iv wr => ∃ k : Nat, k ≤ n + 1 ∧ iv = .int .i64 (k : Int) ∧ Hid (LineTo wr g (n + 1) k (cellAt ax ay bx by_)) ∧ Hid (Below W.heap.size W wr)) (fun iv _ => n + 1 - (intOf iv).toNat)
        case atStart => exact ⟨0, by omega, rfl, HL4, HB4⟩
        case round =>
          clear HL4 HB4
          obtain ⟨k, hk, rfl, HL4, HB4⟩ := hrel
          by_cases hl : k < n + 1
          · have hl' : (k : Int) < (n : Int) + 1 := by omega
            have hl0 : (0 : Int) ≤ (k : Int) := by omega
            obtain ⟨d0, d1, d2, d3⟩ := HK.out wr HB4.out
            obtain ⟨⟨v0, hv0⟩, ⟨v1, hv1⟩, hf0, hf1⟩ := HL4.out.cells k hl
            have HC1 := hid (HB1.out k n (by omega) hn2 (by omega))
            have HC2 := hid (HB2.out k n (by omega) hn2 (by omega))
            go_upto_region 10 with fail
            go_still_tail 17, (by kernel_rfl)
            still_call (HC1.out _)
            repeat still_step
            still_call (HC2.out _)
            repeat still_step
            refine wpStill_nil ?_
            go_wp2
            have h1 := HL4.out.step hl
            rw [HCA.out k] at h1
            refine ⟨⟨k + 1, by omega, by simp, hid (h1.below rfl), hid ?_⟩, by simp [intOf]; omega⟩
            have hgw := HGW.out
            refine ⟨HB4.out.os, HB4.out.tape, HB4.out.output, by simpa using HB4.out.size, fun j hj => ?_⟩
            have e : ((wr.setCell ⟨g, k * 2, none⟩ (.int .i64 (btw ax bx k n))).setCell ⟨g, k * 2 + 1, none⟩ (.int .i64 (btw ay by_ k n))).heap[j]? = wr.heap[j]? := by
              rw [Below.heap_setCell _ _ _ _ (by show j ≠ g; omega), Below.heap_setCell _ _ _ _ (by show j ≠ g; omega)]
            exact e.trans (HB4.out.block j hj)
          · obtain rfl : k = n + 1 := by omega
            have hl' : ((n : Int) + 1 < (n : Int) + 1) = False := by simp
            go_wp2
            go_ret
            exact ⟨_, rfl, HL4.out.done, HBE.out _ HB4.out⟩
    · have e1 := h44.out ax ay
      have e2 := h44.out bx by_
      rw [ha] at e1
      rw [hb] at e2
      rw [ha, hb]
      have E1 := hid e1
      have E2 := hid e2
      clear e1 e2 h44 h45 h48 ha hb
      unfold C at *
      go_enter Try.func42, Try.ntmps42
      go_upto_region 1 with (fail)
      obtain ⟨W, hW⟩ : ∃ W, W = (w.alloc (.cells #[Value.int .i64 ax, .int .i64 ay] 27)).alloc (.cells #[Value.int .i64 bx, .int .i64 by_] 27) := ⟨_, rfl⟩
      obtain ⟨B, hB⟩ : ∃ B, B = w.heap.size := ⟨_, rfl⟩
      rw [← hW, ← hB]
      obtain ⟨hk, hbe⟩ := two_boxes w ax ay bx by_ W B hW hB
      obtain ⟨a0, a1, a2, a3⟩ := hk W (Below.refl _ _)
      have HK := hid hk
      have HBE := hid hbe
      clear hW hB hk hbe
      go_wp2_with fail
      refine Calls.mono (E1.out _) ?_
      rintro e w1 ⟨rfl, hb1⟩
      obtain ⟨b0, b1, b2, b3⟩ := HK.out w1 hb1
      have HB1 := hid hb1
      clear hb1
      go_wp2_with fail
      refine Calls.mono (E2.out _) ?_
      rintro e w2 ⟨rfl, hb2⟩
      have HB2 := hid (HB1.out.trans (hb2.mono HB1.out.size))
      clear hb2
      go_wp2
      go_ret
      exact ⟨_, rfl, ⟨none, 0, rfl, fun h => absurd rfl h⟩, HBE.out _ HB2.out⟩
  · have e1 := h44.out ax ay
    rw [ha] at e1
    rw [ha, Bool.false_and]
    have E1 := hid e1
    clear e1 h44 h45 h48 ha
    unfold C at *
    go_enter Try.func42, Try.ntmps42
    go_upto_region 1 with (fail)
    obtain ⟨W, hW⟩ : ∃ W, W = (w.alloc (.cells #[Value.int .i64 ax, .int .i64 ay] 27)).alloc (.cells #[Value.int .i64 bx, .int .i64 by_] 27) := ⟨_, rfl⟩
    obtain ⟨B, hB⟩ : ∃ B, B = w.heap.size := ⟨_, rfl⟩
    rw [← hW, ← hB]
    obtain ⟨hk, hbe⟩ := two_boxes w ax ay bx by_ W B hW hB
    obtain ⟨a0, a1, a2, a3⟩ := hk W (Below.refl _ _)
    have HBE := hid hbe
    clear hW hB hk hbe
    go_wp2_with fail
    refine Calls.mono (E1.out _) ?_
    rintro e w1 ⟨rfl, hb1⟩
    have HB1 := hid hb1
    clear hb1
    go_wp2
    go_ret
    exact ⟨_, rfl, ⟨none, 0, rfl, fun h => absurd rfl h⟩, HBE.out _ HB1.out⟩
end Go.Proofs.Yteijncfnifebjaa
