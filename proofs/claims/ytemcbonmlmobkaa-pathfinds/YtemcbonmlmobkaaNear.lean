/- Neighbours. -/
import Derived.Test.YtemcbonmlmobkaaIdx
namespace Go.Proofs.Ytemcbonmlmobkaa
open Go.RowKit
/-- The cells around a cell, and those of them that are inside. -/
def nbs (x y : Int) : List (Int × Int) := [(x, wrap64 (y - 1)), (wrap64 (x + 1), y), (x, wrap64 (y + 1)), (wrap64 (x - 1), y)]
def near (m : Mp) (x y : Int) : List (Int × Int) := if formed m then (nbs x y).filter (fun c => holds m c.1 c.2) else []
theorem size63 : (Try.prog.info? 63).map (·.size) = some 8 := by kernel_rfl
set_option maxHeartbeats 1000000 in
theorem around_any (x y : Int) (w : World) : Calls Try.prog 38 #[C x y] w fun e w' => Out w (.agg #[.int .i64 x, .int .i64 (wrap64 (y - 1)), .int .i64 (wrap64 (x + 1)), .int .i64 y, .int .i64 x, .int .i64 (wrap64 (y + 1)), .int .i64 (wrap64 (x - 1)), .int .i64 y]) e w' := by
  unfold C Out
  go_enter Try.func38, Try.ntmps38
  go_wp2
  exact bodyPost_ret (results_array Try.results38 rfl (Blk.new' _ [.int .i64 x, .int .i64 (wrap64 (y - 1)), .int .i64 (wrap64 (x + 1)), .int .i64 y, .int .i64 x, .int .i64 (wrap64 (y + 1)), .int .i64 (wrap64 (x - 1)), .int .i64 y] 63 (w.heap.size + 1) (by simp)) Try.underlying63 rfl size63) rfl ⟨rfl, ((Below.refl _ _).alloc (Nat.le_refl _) _).alloc (by simp) _⟩
attribute [local go_sem] idx0 idx1 idx2 idx3
/-- The call's own row of cells. -/
def OutOwn (w : World) (cs : List (Int × Int)) (e : Ending) (w' : World) : Prop := ∃ v, e = .returned v ∧ OwnC w' w.heap.size v cs ∧ Below w.heap.size w w'
theorem OwnC.mono {w : World} {b b' : Nat} {v : Value} {xs : List (Int × Int)} (h : OwnC w b v xs) (hb : b' ≤ b) : OwnC w b' v xs := by
  obtain ⟨h1, h2 | ⟨g, cap, cur, h3, h4, h5⟩⟩ := h
  · exact ⟨h1, Or.inl h2⟩
  · exact ⟨h1, Or.inr ⟨g, cap, cur, h3, by omega, h5⟩⟩
set_option maxHeartbeats 4000000 in
theorem near_own (m : Mp) (v : Value) (x y : Int) (w : World) (hm : MapAt w v m) : Calls Try.prog 35 #[v, C x y] w fun e w' => OutOwn w (near m x y) e w' := by
  have h15 : Hid (∀ W v, MapAt W v m → Calls Try.prog 20 #[v] W fun e w' => Out W (.bool (formed m)) e w') := fun W v h => formed_any m v W h
  have h43 : Hid (∀ W, Calls Try.prog 38 #[C x y] W fun e w' => Out W (.agg #[.int .i64 x, .int .i64 (wrap64 (y - 1)), .int .i64 (wrap64 (x + 1)), .int .i64 y, .int .i64 x, .int .i64 (wrap64 (y + 1)), .int .i64 (wrap64 (x - 1)), .int .i64 y]) e w') := around_any x y
  have h39 : Hid (∀ s t u z W, Calls Try.prog 30 #[.agg #[.int .i64 m.W, .int .i64 m.H, s, t], C u z] W fun e w' => Out W (.bool (holds m u z)) e w') := fun s t u z W => holds_any m s t u z W
  have HM := hid (fun W (h : Below w.heap.size w W) => hm.below h)
  obtain ⟨L, hL⟩ : ∃ L, L = near m x y := ⟨_, rfl⟩
  rw [← hL]
  have HL : Hid (L = if formed m then ([(x, wrap64 (y - 1)), (wrap64 (x + 1), y), (x, wrap64 (y + 1)), (wrap64 (x - 1), y)] : List (Int × Int)).filter (fun c => holds m c.1 c.2) else []) := hL
  clear hL
  unfold OutOwn
  generalize wrap64 (y - 1) = yu at *
  generalize wrap64 (y + 1) = yd at *
  generalize wrap64 (x + 1) = xr at *
  generalize wrap64 (x - 1) = xl at *
  obtain ⟨p, c, q, d, rfl, -, -⟩ := hm
  generalize formed m = F at *
  generalize hol : holds m = hold at *
  clear hol
  obtain ⟨a, b, ts, os⟩ := m
  simp only at HM h39 ⊢
  generalize ts.length = M at *
  generalize os.length = N at *
  unfold C at *
  rcases F with _ | _
  · have hl : L = [] := by have := HL.out; simpa using this
    subst hl
    go_enter Try.func35, Try.ntmps35
    go_upto_region 1 with (fail)
    obtain ⟨W, hW⟩ : ∃ W, W = (w.alloc (.cells #[Value.int .i64 a, .int .i64 b, .slice p M c, .slice q N d] 24)).alloc (.cells #[Value.int .i64 x, .int .i64 y] 27) := ⟨_, rfl⟩
    obtain ⟨B, hB⟩ : ∃ B, B = w.heap.size := ⟨_, rfl⟩
    rw [← hW, ← hB]
    obtain ⟨hk, hbe⟩ := map_cell_box w a b _ _ x y W B hW hB
    obtain ⟨a0, a1, a2, a3, a4, a5⟩ := hk W (Below.refl _ _)
    have HBE := hid hbe
    clear hW hB hk hbe
    go_wp2_with fail
    refine Calls.mono (h15.out _ _ (HM.out _ (HBE.out W (Below.refl _ _)))) ?_
    rintro e w1 ⟨rfl, hb1⟩
    have HB1 := hid hb1
    clear hb1
    go_wp2
    go_ret
    exact ⟨_, rfl, OwnC.nil _ _, HBE.out _ HB1.out⟩
  · have hl : L = ([(x, yu), (xr, y), (x, yd), (xl, y)] : List (Int × Int)).filter (fun c => hold c.1 c.2) := by have := HL.out; rwa [if_pos rfl] at this
    have HLL := hid (fun (_ : Nat) => hl)
    clear hl HL
    go_enter Try.func35, Try.ntmps35
    go_upto_region 1 with (fail)
    obtain ⟨W, hW⟩ : ∃ W, W = (w.alloc (.cells #[Value.int .i64 a, .int .i64 b, .slice p M c, .slice q N d] 24)).alloc (.cells #[Value.int .i64 x, .int .i64 y] 27) := ⟨_, rfl⟩
    obtain ⟨B, hB⟩ : ∃ B, B = w.heap.size := ⟨_, rfl⟩
    rw [← hW, ← hB]
    obtain ⟨hk, hbe⟩ := map_cell_box w a b _ _ x y W B hW hB
    obtain ⟨a0, a1, a2, a3, a4, a5⟩ := hk W (Below.refl _ _)
    have HBE := hid hbe
    have HK := hid hk
    clear hW hB hk hbe
    go_wp2_with fail
    refine Calls.mono (h15.out _ _ (HM.out _ (HBE.out W (Below.refl _ _)))) ?_
    rintro e w1 ⟨rfl, hb1⟩
    have HB1 := hid hb1
    obtain ⟨b0, b1, b2, b3, b4, b5⟩ := HK.out w1 hb1
    clear hb1 a0 a1 a2 a3 a4 a5
    go_wp2_with fail
    refine Calls.mono (h43.out _) ?_
    rintro e w2 ⟨rfl, hb2⟩
    have HB2 := hid (HB1.out.trans (hb2.mono HB1.out.size))
    clear hb2 b0 b1 b2 b3 b4 b5 HB1
    go_wp2_with fail
    go_loopw [13, 5] (fun iv lv wr => ∃ i : Nat, i ≤ 4 ∧ iv = .int .i64 (i : Int) ∧ Hid (Below W.heap.size W wr) ∧ Hid (OwnC wr W.heap.size lv ((([(x, yu), (xr, y), (x, yd), (xl, y)] : List (Int × Int)).take i).filter (fun c => hold c.1 c.2)))) (fun iv _ _ => 4 - (intOf iv).toNat)
    case atStart => exact ⟨0, by omega, rfl, HB2, OwnC.nil _ _⟩
    case round =>
      clear HB2
      obtain ⟨i, hi, rfl, HB2, HO⟩ := hrel
      have hcase : i = 0 ∨ i = 1 ∨ i = 2 ∨ i = 3 ∨ i = 4 := by omega
      rcases hcase with rfl | rfl | rfl | rfl | rfl
      · rw [show ((0 : Nat) : Int) = 0 from rfl]
        obtain ⟨V, hV⟩ : ∃ V, V = wr.alloc (.cells #[Value.int .i64 x, .int .i64 yu] 27) := ⟨_, rfl⟩
        obtain ⟨g, hg⟩ : ∃ g, g = wr.heap.size := ⟨_, rfl⟩
        have HVB : Hid (Below wr.heap.size wr V) := by rw [hV]; exact (Below.refl _ _).alloc (Nat.le_refl _) _
        have HVG : Hid (Blk V g [.int .i64 x, .int .i64 yu] 27) := by rw [hV, hg]; exact Blk.new _ _ _
        have HBV := hid (HB2.out.trans (HVB.out.mono HB2.out.size))
        have HOV := hid (HO.out.below HVB.out)
        go_upto_region 7 with fail
        rw [← hV, ← hg]
        obtain ⟨a0, a1, a2, a3, a4, a5⟩ := HK.out V HBV.out
        have g0 : V.cell? ⟨g, 0, none⟩ = some (.int .i64 x) := HVG.out.cell 0
        have g1 : V.cell? ⟨g, 1, none⟩ = some (.int .i64 yu) := HVG.out.cell 1
        clear hV hg HVB HB2 HO
        go_wp2_with fail
        refine Calls.mono (h39.out _ _ _ _ _) ?_
        rintro e w3 ⟨rfl, hb3⟩
        have HBW := hid (HBV.out.trans (hb3.mono HBV.out.size))
        have HOW := hid (HOV.out.below hb3)
        have HWG := hid (HVG.out.below hb3 HVG.out.lt)
        have g2 : w3.cell? ⟨g, 0, none⟩ = some (.int .i64 x) := HWG.out.cell 0
        have g3 : w3.cell? ⟨g, 1, none⟩ = some (.int .i64 yu) := HWG.out.cell 1
        clear hb3 HBV HOV HVG g0 g1 a0 a1 a2 a3 a4 a5
        rcases hh : hold x yu with _ | _
        · have e1 : (([(x, yu), (xr, y), (x, yd), (xl, y)] : List (Int × Int)).take 1).filter (fun c => hold c.1 c.2) = (([(x, yu), (xr, y), (x, yd), (xl, y)] : List (Int × Int)).take 0).filter (fun c => hold c.1 c.2) := by rw [show ([(x, yu), (xr, y), (x, yd), (xl, y)] : List (Int × Int)).take 1 = ([(x, yu), (xr, y), (x, yd), (xl, y)] : List (Int × Int)).take 0 ++ [(x, yu)] from rfl, List.filter_append]; simp [hh]
          rw [← e1] at HOW
          clear hh
          go_wp2
          go_roundw
          case rel => exact ⟨1, by omega, rfl, HBW, HOW⟩
          case measure => simp [intOf]
        · have e1 : (([(x, yu), (xr, y), (x, yd), (xl, y)] : List (Int × Int)).take 1).filter (fun c => hold c.1 c.2) = (([(x, yu), (xr, y), (x, yd), (xl, y)] : List (Int × Int)).take 0).filter (fun c => hold c.1 c.2) ++ [(x, yu)] := by rw [show ([(x, yu), (xr, y), (x, yd), (xl, y)] : List (Int × Int)).take 1 = ([(x, yu), (xr, y), (x, yd), (xl, y)] : List (Int × Int)).take 0 ++ [(x, yu)] from rfl, List.filter_append]; congr 1; simp [hh]
          have HE1 := hid e1
          clear hh e1
          have HSL : Hid (((([(x, yu), (xr, y), (x, yd), (xl, y)] : List (Int × Int)).take 0).filter (fun c => hold c.1 c.2)).length ≤ 1000000) := Nat.le_trans (List.length_filter_le _ _) (by simp)
          generalize (([(x, yu), (xr, y), (x, yd), (xl, y)] : List (Int × Int)).take 0).filter (fun c => hold c.1 c.2) = xs at *
          obtain ⟨U, hU⟩ : ∃ U, U = w3.alloc (.cells #[Value.int .i64 x, .int .i64 yu] 27) := ⟨_, rfl⟩
          have HUB : Hid (Below w3.heap.size w3 U) := by rw [hU]; exact (Below.refl _ _).alloc (Nat.le_refl _) _
          have HUG : Hid (Blk U w3.heap.size [.int .i64 (x, yu).1, .int .i64 (x, yu).2] 27) := by rw [hU]; exact Blk.new _ _ _
          have HBU := hid (HBW.out.trans (HUB.out.mono HBW.out.size))
          have HOU := hid (HOW.out.below HUB.out)
          rw [hU] at HUG HBU HOU
          clear hU
          go_upto_region 9 with (first
            | ((with_reducible refine wpL_appendC W.heap.size u5 w3.heap.size xs (x, yu) ?_ ?_ HOU.out HUG.out HSL.out HBU.out.size ?_); (rfl); (rfl); (intro v' w4 ho4 hg4); (have HB4 := hid (HBU.out.trans ((hg4.belowC HOU.out HBU.out.size))); have HO4 := hid ho4; clear ho4 hg4); (simp only [Act.put, List.setIfInBounds_toArray, List.set_cons_zero, List.set_cons_succ])))
          rw [← HE1.out] at HO4
          go_wp2
          go_roundw
          case rel => exact ⟨1, by omega, rfl, HB4, HO4⟩
          case measure => simp [intOf]
      · rw [show ((1 : Nat) : Int) = 1 from rfl]
        obtain ⟨V, hV⟩ : ∃ V, V = wr.alloc (.cells #[Value.int .i64 xr, .int .i64 y] 27) := ⟨_, rfl⟩
        obtain ⟨g, hg⟩ : ∃ g, g = wr.heap.size := ⟨_, rfl⟩
        have HVB : Hid (Below wr.heap.size wr V) := by rw [hV]; exact (Below.refl _ _).alloc (Nat.le_refl _) _
        have HVG : Hid (Blk V g [.int .i64 xr, .int .i64 y] 27) := by rw [hV, hg]; exact Blk.new _ _ _
        have HBV := hid (HB2.out.trans (HVB.out.mono HB2.out.size))
        have HOV := hid (HO.out.below HVB.out)
        go_upto_region 7 with fail
        rw [← hV, ← hg]
        obtain ⟨a0, a1, a2, a3, a4, a5⟩ := HK.out V HBV.out
        have g0 : V.cell? ⟨g, 0, none⟩ = some (.int .i64 xr) := HVG.out.cell 0
        have g1 : V.cell? ⟨g, 1, none⟩ = some (.int .i64 y) := HVG.out.cell 1
        clear hV hg HVB HB2 HO
        go_wp2_with fail
        refine Calls.mono (h39.out _ _ _ _ _) ?_
        rintro e w3 ⟨rfl, hb3⟩
        have HBW := hid (HBV.out.trans (hb3.mono HBV.out.size))
        have HOW := hid (HOV.out.below hb3)
        have HWG := hid (HVG.out.below hb3 HVG.out.lt)
        have g2 : w3.cell? ⟨g, 0, none⟩ = some (.int .i64 xr) := HWG.out.cell 0
        have g3 : w3.cell? ⟨g, 1, none⟩ = some (.int .i64 y) := HWG.out.cell 1
        clear hb3 HBV HOV HVG g0 g1 a0 a1 a2 a3 a4 a5
        rcases hh : hold xr y with _ | _
        · have e1 : (([(x, yu), (xr, y), (x, yd), (xl, y)] : List (Int × Int)).take 2).filter (fun c => hold c.1 c.2) = (([(x, yu), (xr, y), (x, yd), (xl, y)] : List (Int × Int)).take 1).filter (fun c => hold c.1 c.2) := by rw [show ([(x, yu), (xr, y), (x, yd), (xl, y)] : List (Int × Int)).take 2 = ([(x, yu), (xr, y), (x, yd), (xl, y)] : List (Int × Int)).take 1 ++ [(xr, y)] from rfl, List.filter_append]; simp [hh]
          rw [← e1] at HOW
          clear hh
          go_wp2
          go_roundw
          case rel => exact ⟨2, by omega, rfl, HBW, HOW⟩
          case measure => simp [intOf]
        · have e1 : (([(x, yu), (xr, y), (x, yd), (xl, y)] : List (Int × Int)).take 2).filter (fun c => hold c.1 c.2) = (([(x, yu), (xr, y), (x, yd), (xl, y)] : List (Int × Int)).take 1).filter (fun c => hold c.1 c.2) ++ [(xr, y)] := by rw [show ([(x, yu), (xr, y), (x, yd), (xl, y)] : List (Int × Int)).take 2 = ([(x, yu), (xr, y), (x, yd), (xl, y)] : List (Int × Int)).take 1 ++ [(xr, y)] from rfl, List.filter_append]; congr 1; simp [hh]
          have HE1 := hid e1
          clear hh e1
          have HSL : Hid (((([(x, yu), (xr, y), (x, yd), (xl, y)] : List (Int × Int)).take 1).filter (fun c => hold c.1 c.2)).length ≤ 1000000) := Nat.le_trans (List.length_filter_le _ _) (by simp)
          generalize (([(x, yu), (xr, y), (x, yd), (xl, y)] : List (Int × Int)).take 1).filter (fun c => hold c.1 c.2) = xs at *
          obtain ⟨U, hU⟩ : ∃ U, U = w3.alloc (.cells #[Value.int .i64 xr, .int .i64 y] 27) := ⟨_, rfl⟩
          have HUB : Hid (Below w3.heap.size w3 U) := by rw [hU]; exact (Below.refl _ _).alloc (Nat.le_refl _) _
          have HUG : Hid (Blk U w3.heap.size [.int .i64 (xr, y).1, .int .i64 (xr, y).2] 27) := by rw [hU]; exact Blk.new _ _ _
          have HBU := hid (HBW.out.trans (HUB.out.mono HBW.out.size))
          have HOU := hid (HOW.out.below HUB.out)
          rw [hU] at HUG HBU HOU
          clear hU
          go_upto_region 9 with (first
            | ((with_reducible refine wpL_appendC W.heap.size u5 w3.heap.size xs (xr, y) ?_ ?_ HOU.out HUG.out HSL.out HBU.out.size ?_); (rfl); (rfl); (intro v' w4 ho4 hg4); (have HB4 := hid (HBU.out.trans ((hg4.belowC HOU.out HBU.out.size))); have HO4 := hid ho4; clear ho4 hg4); (simp only [Act.put, List.setIfInBounds_toArray, List.set_cons_zero, List.set_cons_succ])))
          rw [← HE1.out] at HO4
          go_wp2
          go_roundw
          case rel => exact ⟨2, by omega, rfl, HB4, HO4⟩
          case measure => simp [intOf]
      · rw [show ((2 : Nat) : Int) = 2 from rfl]
        obtain ⟨V, hV⟩ : ∃ V, V = wr.alloc (.cells #[Value.int .i64 x, .int .i64 yd] 27) := ⟨_, rfl⟩
        obtain ⟨g, hg⟩ : ∃ g, g = wr.heap.size := ⟨_, rfl⟩
        have HVB : Hid (Below wr.heap.size wr V) := by rw [hV]; exact (Below.refl _ _).alloc (Nat.le_refl _) _
        have HVG : Hid (Blk V g [.int .i64 x, .int .i64 yd] 27) := by rw [hV, hg]; exact Blk.new _ _ _
        have HBV := hid (HB2.out.trans (HVB.out.mono HB2.out.size))
        have HOV := hid (HO.out.below HVB.out)
        go_upto_region 7 with fail
        rw [← hV, ← hg]
        obtain ⟨a0, a1, a2, a3, a4, a5⟩ := HK.out V HBV.out
        have g0 : V.cell? ⟨g, 0, none⟩ = some (.int .i64 x) := HVG.out.cell 0
        have g1 : V.cell? ⟨g, 1, none⟩ = some (.int .i64 yd) := HVG.out.cell 1
        clear hV hg HVB HB2 HO
        go_wp2_with fail
        refine Calls.mono (h39.out _ _ _ _ _) ?_
        rintro e w3 ⟨rfl, hb3⟩
        have HBW := hid (HBV.out.trans (hb3.mono HBV.out.size))
        have HOW := hid (HOV.out.below hb3)
        have HWG := hid (HVG.out.below hb3 HVG.out.lt)
        have g2 : w3.cell? ⟨g, 0, none⟩ = some (.int .i64 x) := HWG.out.cell 0
        have g3 : w3.cell? ⟨g, 1, none⟩ = some (.int .i64 yd) := HWG.out.cell 1
        clear hb3 HBV HOV HVG g0 g1 a0 a1 a2 a3 a4 a5
        rcases hh : hold x yd with _ | _
        · have e1 : (([(x, yu), (xr, y), (x, yd), (xl, y)] : List (Int × Int)).take 3).filter (fun c => hold c.1 c.2) = (([(x, yu), (xr, y), (x, yd), (xl, y)] : List (Int × Int)).take 2).filter (fun c => hold c.1 c.2) := by rw [show ([(x, yu), (xr, y), (x, yd), (xl, y)] : List (Int × Int)).take 3 = ([(x, yu), (xr, y), (x, yd), (xl, y)] : List (Int × Int)).take 2 ++ [(x, yd)] from rfl, List.filter_append]; simp [hh]
          rw [← e1] at HOW
          clear hh
          go_wp2
          go_roundw
          case rel => exact ⟨3, by omega, rfl, HBW, HOW⟩
          case measure => simp [intOf]
        · have e1 : (([(x, yu), (xr, y), (x, yd), (xl, y)] : List (Int × Int)).take 3).filter (fun c => hold c.1 c.2) = (([(x, yu), (xr, y), (x, yd), (xl, y)] : List (Int × Int)).take 2).filter (fun c => hold c.1 c.2) ++ [(x, yd)] := by rw [show ([(x, yu), (xr, y), (x, yd), (xl, y)] : List (Int × Int)).take 3 = ([(x, yu), (xr, y), (x, yd), (xl, y)] : List (Int × Int)).take 2 ++ [(x, yd)] from rfl, List.filter_append]; congr 1; simp [hh]
          have HE1 := hid e1
          clear hh e1
          have HSL : Hid (((([(x, yu), (xr, y), (x, yd), (xl, y)] : List (Int × Int)).take 2).filter (fun c => hold c.1 c.2)).length ≤ 1000000) := Nat.le_trans (List.length_filter_le _ _) (by simp)
          generalize (([(x, yu), (xr, y), (x, yd), (xl, y)] : List (Int × Int)).take 2).filter (fun c => hold c.1 c.2) = xs at *
          obtain ⟨U, hU⟩ : ∃ U, U = w3.alloc (.cells #[Value.int .i64 x, .int .i64 yd] 27) := ⟨_, rfl⟩
          have HUB : Hid (Below w3.heap.size w3 U) := by rw [hU]; exact (Below.refl _ _).alloc (Nat.le_refl _) _
          have HUG : Hid (Blk U w3.heap.size [.int .i64 (x, yd).1, .int .i64 (x, yd).2] 27) := by rw [hU]; exact Blk.new _ _ _
          have HBU := hid (HBW.out.trans (HUB.out.mono HBW.out.size))
          have HOU := hid (HOW.out.below HUB.out)
          rw [hU] at HUG HBU HOU
          clear hU
          go_upto_region 9 with (first
            | ((with_reducible refine wpL_appendC W.heap.size u5 w3.heap.size xs (x, yd) ?_ ?_ HOU.out HUG.out HSL.out HBU.out.size ?_); (rfl); (rfl); (intro v' w4 ho4 hg4); (have HB4 := hid (HBU.out.trans ((hg4.belowC HOU.out HBU.out.size))); have HO4 := hid ho4; clear ho4 hg4); (simp only [Act.put, List.setIfInBounds_toArray, List.set_cons_zero, List.set_cons_succ])))
          rw [← HE1.out] at HO4
          go_wp2
          go_roundw
          case rel => exact ⟨3, by omega, rfl, HB4, HO4⟩
          case measure => simp [intOf]
      · rw [show ((3 : Nat) : Int) = 3 from rfl]
        obtain ⟨V, hV⟩ : ∃ V, V = wr.alloc (.cells #[Value.int .i64 xl, .int .i64 y] 27) := ⟨_, rfl⟩
        obtain ⟨g, hg⟩ : ∃ g, g = wr.heap.size := ⟨_, rfl⟩
        have HVB : Hid (Below wr.heap.size wr V) := by rw [hV]; exact (Below.refl _ _).alloc (Nat.le_refl _) _
        have HVG : Hid (Blk V g [.int .i64 xl, .int .i64 y] 27) := by rw [hV, hg]; exact Blk.new _ _ _
        have HBV := hid (HB2.out.trans (HVB.out.mono HB2.out.size))
        have HOV := hid (HO.out.below HVB.out)
        go_upto_region 7 with fail
        rw [← hV, ← hg]
        obtain ⟨a0, a1, a2, a3, a4, a5⟩ := HK.out V HBV.out
        have g0 : V.cell? ⟨g, 0, none⟩ = some (.int .i64 xl) := HVG.out.cell 0
        have g1 : V.cell? ⟨g, 1, none⟩ = some (.int .i64 y) := HVG.out.cell 1
        clear hV hg HVB HB2 HO
        go_wp2_with fail
        refine Calls.mono (h39.out _ _ _ _ _) ?_
        rintro e w3 ⟨rfl, hb3⟩
        have HBW := hid (HBV.out.trans (hb3.mono HBV.out.size))
        have HOW := hid (HOV.out.below hb3)
        have HWG := hid (HVG.out.below hb3 HVG.out.lt)
        have g2 : w3.cell? ⟨g, 0, none⟩ = some (.int .i64 xl) := HWG.out.cell 0
        have g3 : w3.cell? ⟨g, 1, none⟩ = some (.int .i64 y) := HWG.out.cell 1
        clear hb3 HBV HOV HVG g0 g1 a0 a1 a2 a3 a4 a5
        rcases hh : hold xl y with _ | _
        · have e1 : (([(x, yu), (xr, y), (x, yd), (xl, y)] : List (Int × Int)).take 4).filter (fun c => hold c.1 c.2) = (([(x, yu), (xr, y), (x, yd), (xl, y)] : List (Int × Int)).take 3).filter (fun c => hold c.1 c.2) := by rw [show ([(x, yu), (xr, y), (x, yd), (xl, y)] : List (Int × Int)).take 4 = ([(x, yu), (xr, y), (x, yd), (xl, y)] : List (Int × Int)).take 3 ++ [(xl, y)] from rfl, List.filter_append]; simp [hh]
          rw [← e1] at HOW
          clear hh
          go_wp2
          go_roundw
          case rel => exact ⟨4, by omega, rfl, HBW, HOW⟩
          case measure => simp [intOf]
        · have e1 : (([(x, yu), (xr, y), (x, yd), (xl, y)] : List (Int × Int)).take 4).filter (fun c => hold c.1 c.2) = (([(x, yu), (xr, y), (x, yd), (xl, y)] : List (Int × Int)).take 3).filter (fun c => hold c.1 c.2) ++ [(xl, y)] := by rw [show ([(x, yu), (xr, y), (x, yd), (xl, y)] : List (Int × Int)).take 4 = ([(x, yu), (xr, y), (x, yd), (xl, y)] : List (Int × Int)).take 3 ++ [(xl, y)] from rfl, List.filter_append]; congr 1; simp [hh]
          have HE1 := hid e1
          clear hh e1
          have HSL : Hid (((([(x, yu), (xr, y), (x, yd), (xl, y)] : List (Int × Int)).take 3).filter (fun c => hold c.1 c.2)).length ≤ 1000000) := Nat.le_trans (List.length_filter_le _ _) (by simp)
          generalize (([(x, yu), (xr, y), (x, yd), (xl, y)] : List (Int × Int)).take 3).filter (fun c => hold c.1 c.2) = xs at *
          obtain ⟨U, hU⟩ : ∃ U, U = w3.alloc (.cells #[Value.int .i64 xl, .int .i64 y] 27) := ⟨_, rfl⟩
          have HUB : Hid (Below w3.heap.size w3 U) := by rw [hU]; exact (Below.refl _ _).alloc (Nat.le_refl _) _
          have HUG : Hid (Blk U w3.heap.size [.int .i64 (xl, y).1, .int .i64 (xl, y).2] 27) := by rw [hU]; exact Blk.new _ _ _
          have HBU := hid (HBW.out.trans (HUB.out.mono HBW.out.size))
          have HOU := hid (HOW.out.below HUB.out)
          rw [hU] at HUG HBU HOU
          clear hU
          go_upto_region 9 with (first
            | ((with_reducible refine wpL_appendC W.heap.size u5 w3.heap.size xs (xl, y) ?_ ?_ HOU.out HUG.out HSL.out HBU.out.size ?_); (rfl); (rfl); (intro v' w4 ho4 hg4); (have HB4 := hid (HBU.out.trans ((hg4.belowC HOU.out HBU.out.size))); have HO4 := hid ho4; clear ho4 hg4); (simp only [Act.put, List.setIfInBounds_toArray, List.set_cons_zero, List.set_cons_succ])))
          rw [← HE1.out] at HO4
          go_wp2
          go_roundw
          case rel => exact ⟨4, by omega, rfl, HB4, HO4⟩
          case measure => simp [intOf]
      · go_wp2
        go_ret
        have ho := HO.out.mono (HBE.out W (Below.refl _ _)).size
        have e : ([(x, yu), (xr, y), (x, yd), (xl, y)] : List (Int × Int)).take 4 = [(x, yu), (xr, y), (x, yd), (xl, y)] := rfl
        rw [e, ← HLL.out 0] at ho
        exact ⟨_, rfl, ho, HBE.out _ HB2.out⟩
theorem near_any (m : Mp) (v : Value) (x y : Int) (w : World) (hm : MapAt w v m) : Calls Try.prog 35 #[v, C x y] w fun e w' => OutLine w (near m x y) e w' :=
  (near_own m v x y w hm).mono fun _ _ ⟨u, h1, h2, h3⟩ => ⟨u, h1, h2.cells, h3⟩
end Go.Proofs.Ytemcbonmlmobkaa
