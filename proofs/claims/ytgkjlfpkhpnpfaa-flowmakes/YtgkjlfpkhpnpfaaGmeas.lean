/- The search from all goals, as the program carries it out: measure. -/
import Derived.Test.YtgkjlfpkhpnpfaaGshut
import Derived.Test.YtgkjlfpkhpnpfaaSearch
namespace Go.Proofs.Ytgkjlfpkhpnpfaa
open Go.RowKit
theorem visitG_ext (d : Nat) (s : St) (n : Cl) : (∃ t, (visitG d s n).1 = s.1 ++ t ∧ t.length ≤ 1) ∧ ∀ c, (s.2 c).isSome → (visitG d s n).2 c = s.2 c := by
  unfold visitG
  by_cases h1 : (s.2 n).isSome
  · rw [if_pos h1]; exact ⟨⟨[], by simp, by simp⟩, fun _ _ => rfl⟩
  · rw [if_neg h1]
    exact ⟨⟨[n], rfl, by simp⟩, fun c hc => if_neg (fun he => h1 (by rw [← he]; exact hc))⟩
theorem visitsG_ext (d : Nat) : ∀ (l : List Cl) (s : St), (∃ t, (l.foldl (visitG d) s).1 = s.1 ++ t ∧ t.length ≤ l.length) ∧ ∀ c, (s.2 c).isSome → (l.foldl (visitG d) s).2 c = s.2 c
  | [], s => ⟨⟨[], by simp, by simp⟩, fun _ _ => rfl⟩
  | n :: l, s => by
    obtain ⟨⟨t, h1, h2⟩, h3⟩ := visitG_ext d s n
    obtain ⟨⟨u, k1, k2⟩, k3⟩ := visitsG_ext d l (visitG d s n)
    refine ⟨⟨t ++ u, by rw [List.foldl_cons, k1, h1, List.append_assoc], by simp; omega⟩, fun c hc => ?_⟩
    rw [List.foldl_cons, k3 c (by rw [h3 c hc]; exact hc), h3 c hc]
theorem begG_len (gs : List Cl) (k : Nat) : (begG gs k).1.length ≤ k := by
  obtain ⟨⟨t, h1, h2⟩, -⟩ := visitsG_ext 0 (gs.take k) ([], fun _ => none)
  unfold begG
  rw [h1]
  have : (gs.take k).length ≤ k := by rw [List.length_take]; omega
  simp only [List.length_append, List.length_nil]
  omega
/-- The state behind k neighbours. -/
def midG (d : Nat) (s : St) (l : List Cl) (k : Nat) : St := (l.take k).foldl (visitG d) s
theorem midG_next (d : Nat) (s : St) {l : List Cl} {k : Nat} (hk : k < l.length) : midG d s l (k + 1) = visitG d (midG d s l k) (l.getD k (0, 0)) := by
  unfold midG
  have e : l.take (k + 1) = l.take k ++ [l.getD k (0, 0)] := by
    rw [List.take_add_one, List.getD_eq_getElem?_getD, List.getElem?_eq_getElem hk]; rfl
  rw [e, List.foldl_append]; rfl
theorem midG_facts {d d0 : Nat} {s : St} {x : Cl} (hd : s.2 x = some d0) (h4 : s.1.length ≤ 400) (l : List Cl) (hl : l.length ≤ 4) (k : Nat) :
    (midG d s l k).2 x = some d0 ∧ (midG d s l k).1.length ≤ 404 := by
  obtain ⟨⟨t, h1, h2⟩, h3⟩ := visitsG_ext d (l.take k) s
  have hk : (l.take k).length ≤ l.length := by rw [List.length_take]; omega
  unfold midG
  exact ⟨by rw [h3 x (by rw [hd]; rfl), hd], by rw [h1, List.length_append]; omega⟩
theorem roundG_mid {m : Mp} {bl gs : List Cl} {s : St} {x y : Int} {d : Nat} (ho : opn m bl gs (x, y) = true) (hd : s.2 (x, y) = some d) : roundG m bl gs s (x, y) = midG (d + 1) s (near m x y) (near m x y).length := by
  unfold roundG midG
  rw [if_pos ho, hd, List.take_length]
  rfl
def OutG (w : World) (m : Mp) (bl gs : List Cl) (e : Ending) (w' : World) : Prop := ∃ g f, e = .returned (.map (some g)) ∧ w.heap.size ≤ g ∧ FMap w' g (valF f) ∧ Field m bl gs f ∧ Below w.heap.size w w'
set_option maxRecDepth 4000 in
set_option maxHeartbeats 4000000 in
theorem measureG_any (m : Mp) (v u : Value) (bl gs : List Cl) (b9 : Nat) (w : World) (hm : MapAt w v m) (hs : FMap w b9 (shutG m bl gs)) (hg : CellsAt w u gs) (hf : formed m = true) (hN : gs.length ≤ 1000) (hgi : ∀ c ∈ gs, inn m c = true) :
    Calls Try.prog 27 #[v, .map (some b9), u] w fun e w' => OutG w m bl gs e w' := by
  have hb9 := hs.lt
  have h40 : Hid (∀ x y W, Below w.heap.size w W → Calls Try.prog 40 #[v, C x y] W fun e w' => OutOwn W (near m x y) e w') := fun x y W h => near_own m v x y W (hm.below h)
  have HIB : Hid (InvG m bl gs 0 (begG gs gs.length)) := InvG.begin hgi
  have HIN : Hid (∀ i s x, InvG m bl gs i s → s.1[i]? = some x → InvG m bl gs (i + 1) (roundG m bl gs s x)) := fun i s x h hx => (h.next hf hx).1
  have HID : Hid (∀ i s, InvG m bl gs i s → s.1.length ≤ i → Field m bl gs s.2) := fun i s h he => h.done hf he
  have HIL : Hid (∀ i s, InvG m bl gs i s → s.1.length ≤ 400 ∧ i ≤ s.1.length) := fun i s h => ⟨h.few hf, h.le⟩
  have HII : Hid (∀ i s x, InvG m bl gs i s → s.1[i]? = some x → inn m x = true) := fun i s x h hx => by
    obtain ⟨⟨T, hs, _⟩, _⟩ := h
    exact hs.ins x (List.mem_of_getElem? hx)
  have HSH : Hid (∀ c, inn m c = true → (shutG m bl gs c).isSome = !opn m bl gs c) := fun c hc => shutG_is hf hc
  have HSG : Hid (∀ c, (shutG m bl gs c).getD (.agg #[]) = .agg #[]) := fun c => shutG_get m bl gs c
  have HSB : Hid (∀ W, Below w.heap.size w W → FMap W b9 (shutG m bl gs)) := fun W h => hs.below h hb9
  have HNI : Hid (∀ c x, x ∈ nr m c → inn m x = true) := fun c x h => nr_in hf h
  have HNL : Hid (∀ c, (nr m c).length ≤ 4) := fun c => by
    unfold nr near
    rw [if_pos hf]
    exact Nat.le_trans (List.length_filter_le _ _) (by simp [nbs])
  have HBN : Hid (∀ k, k < gs.length → begG gs (k + 1) = visitG 0 (begG gs k) (gs.getD k (0, 0))) := fun k h => begG_next h
  have HBL := hid (begG_len gs)
  have HB0S : Hid (begG gs 0 = ([], fun _ => none)) := hid rfl
  obtain ⟨SF, hSF⟩ : ∃ SF, SF = shutG m bl gs := ⟨_, rfl⟩
  rw [← hSF] at HSH HSG HSB
  obtain ⟨p, c, q, d, rfl, -, -⟩ := hm
  obtain ⟨r, rc, rfl, hcell⟩ := hg
  have HB : Hid (∀ W, Below w.heap.size w W → ∀ i, i < gs.length → ∃ rb ro, r = some ⟨rb, ro, none⟩ ∧ W.cell? ⟨rb, ro + i * 2, none⟩ = some (.int .i64 (gs.getD i (0, 0)).1) ∧ W.cell? ⟨rb, ro + i * 2 + 1, none⟩ = some (.int .i64 (gs.getD i (0, 0)).2)) := fun W h i hi => by
    obtain ⟨rb, ro, e, h2⟩ := hcell (by intro h0; subst h0; simp at hi)
    obtain ⟨h3, h4⟩ := h2 i hi
    exact ⟨rb, ro, e, by rw [h.cell (p := ⟨rb, ro + i * 2, none⟩) (lt_of_cell h3)]; exact h3, by rw [h.cell (p := ⟨rb, ro + i * 2 + 1, none⟩) (lt_of_cell h4)]; exact h4⟩
  unfold OutG
  clear hSF hf hgi hcell hs
  obtain ⟨S1, hS1⟩ : ∃ z, z = Value.slice p m.ts.length c := ⟨_, rfl⟩
  obtain ⟨S2, hS2⟩ : ∃ z, z = Value.slice q m.os.length d := ⟨_, rfl⟩
  obtain ⟨mW, hmW⟩ : ∃ z, z = m.W := ⟨_, rfl⟩
  obtain ⟨mH, hmH⟩ : ∃ z, z = m.H := ⟨_, rfl⟩
  obtain ⟨N, hNe⟩ : ∃ N, N = gs.length := ⟨_, rfl⟩
  rw [← hS1, ← hS2, ← hmW, ← hmH] at h40 ⊢
  rw [← hNe] at HB HBN HIB hN ⊢
  obtain ⟨bf, hbf⟩ : ∃ bf : Nat → Cl, bf = fun i => gs.getD i (0, 0) := ⟨_, rfl⟩
  have HBF := hid (fun i => congrFun hbf i)
  simp only [← HBF.out] at HB HBN
  clear hS1 hS2 hmW hmH hNe hbf HBF
  obtain ⟨BG, hBG⟩ : ∃ BG, BG = begG gs := ⟨_, rfl⟩
  rw [← hBG] at HBN HBL HIB HB0S
  clear hBG
  unfold C at *
  have hmm := @run_makeMap Try.prog
  go_enter Try.func27, Try.ntmps27
  go_upto_region 4 with fail
  obtain ⟨V, hV⟩ : ∃ V, V = (w.alloc (.cells #[Value.int .i64 mW, .int .i64 mH, S1, S2] 24)).alloc (.map #[] 0) := ⟨_, rfl⟩
  obtain ⟨B, hBe⟩ : ∃ B, B = w.heap.size := ⟨_, rfl⟩
  rw [← hV, ← hBe]
  have hsz : V.heap.size = B + 2 := by rw [hV, hBe]; simp
  have HBE : Hid (∀ w', Below (B + 1) V w' → Below B w w') := by
    intro w' h
    have h1 : Below w.heap.size w V := by rw [hV]; exact ((Below.refl _ _).alloc (Nat.le_refl _) _).alloc (by simp) _
    rw [← hBe] at h1
    exact h1.trans (h.mono (by omega))
  have hbk : Blk V B [Value.int .i64 mW, .int .i64 mH, S1, S2] 24 := by rw [hV, hBe]; exact (Blk.new _ _ _).alloc _
  have HK : Hid (∀ w', Below (B + 1) V w' → w'.cell? ⟨B, 0, none⟩ = some (.int .i64 mW) ∧ w'.cell? ⟨B, 1, none⟩ = some (.int .i64 mH) ∧ w'.cell? ⟨B, 2, none⟩ = some S1 ∧ w'.cell? ⟨B, 3, none⟩ = some S2) := fun w' h => by
    have := hbk.below h (by omega)
    exact ⟨this.cell 0, this.cell 1, this.cell 2, this.cell 3⟩
  have HF0 : Hid (FMap V (B + 1) (valF (BG 0).2)) := by
    have := FMap.new (w.alloc (.cells #[Value.int .i64 mW, .int .i64 mH, S1, S2] 24))
    rw [← hV] at this
    simp only [World.size_alloc] at this
    rw [← hBe] at this
    rw [HB0S.out]
    exact this
  have HO0 : Hid (OwnC V (B + 2) (.slice none 0 0) (BG 0).1) := by rw [HB0S.out]; exact OwnC.nil _ _
  have HB0 := hid (Below.refl (B + 1) V)
  rw [← hBe] at HB h40 HSB hb9
  have HBe := hid (fun (_ : Nat) => hBe)
  clear hV hBe hbk hmm
  obtain ⟨D, hD⟩ : ∃ D, D = B + 1 := ⟨_, rfl⟩
  have HDE := hid (fun (_ : Nat) => hD)
  rw [← hD] at HBE HK HF0 HB0 ⊢
  rw [show B + 2 = D + 1 by omega] at HO0 hsz
  have hBD : B ≤ D := by omega
  have hbD : b9 < D := by omega
  clear HB0S hD
  go_loopw [24, 8] (fun iv lv wr => ∃ k : Nat, k ≤ N ∧ iv = .int .i64 (k : Int) ∧ Hid (Below D V wr) ∧ Hid (OwnC wr (D + 1) lv (BG k).1) ∧ Hid (FMap wr D (valF (BG k).2))) (fun iv _ _ => N - (intOf iv).toNat)
  case atStart => exact ⟨0, by omega, rfl, HB0, HO0, HF0⟩
  case round =>
    clear HB0 HO0 HF0
    obtain ⟨k, hk, rfl, HB1, HO1, HF1⟩ := hrel
    by_cases hl : k < N
    · have hl' : (k : Int) < (N : Int) := by omega
      obtain ⟨rb, ro, rfl, d0, d1⟩ := HB.out wr (HBE.out wr HB1.out) k hl
      have HM5 := hid (HBN.out k hl)
      have HL5 := hid (HBL.out k)
      obtain ⟨x, hx⟩ : ∃ x, x = (bf k).1 := ⟨_, rfl⟩
      obtain ⟨y, hy⟩ : ∃ y, y = (bf k).2 := ⟨_, rfl⟩
      rw [← hx] at d0
      rw [← hy] at d1
      rw [show bf k = (x, y) from Prod.ext hx.symm hy.symm] at HM5
      clear hx hy
      generalize BG k = sk at *
      obtain ⟨U, hU⟩ : ∃ U, U = wr.alloc (.cells #[Value.int .i64 x, .int .i64 y] 37) := ⟨_, rfl⟩
      obtain ⟨g, hg⟩ : ∃ g, g = wr.heap.size := ⟨_, rfl⟩
      have HUB : Hid (Below g wr U) := by rw [hU, hg]; exact (Below.refl _ _).alloc (Nat.le_refl _) _
      have HUG : Hid (Blk U g [.int .i64 x, .int .i64 y] 37) := by rw [hU, hg]; exact Blk.new _ _ _
      have hDg : D < g := by rw [hg]; exact HF1.out.lt
      have HBU := hid (HB1.out.trans (HUB.out.mono (by omega)))
      have HOU : Hid (OwnC U (D + 1) u8 sk.1) := HO1.out.below (by rw [← hg]; exact HUB.out)
      have HFU : Hid (FMap U D (valF sk.2)) := HF1.out.below HUB.out hDg
      go_upto_region 6 with fail
      rw [← hU, ← hg]
      have g0 : U.cell? ⟨g, 0, none⟩ = some (.int .i64 x) := HUG.out.cell 0
      have g1 : U.cell? ⟨g, 1, none⟩ = some (.int .i64 y) := HUG.out.cell 1
      clear hU hg HUB HB1 HO1 HF1 d0 d1
      by_cases hmt : (sk.2 (x, y)).isSome = true
      · have HE : Hid (BG (k + 1) = sk) := by rw [HM5.out]; unfold visitG; rw [if_pos hmt]; exact hid rfl
        go_wp2_with (at_lookup; (with_reducible refine wpL_look2 3 Try.underlying54 (.int .i64 0) zero3 D (valF sk.2) x y ?_ ?_ HFU.out ?_); (rfl); (rfl); (rw [valF_get, valF_some, hmt]))
        rw [← HE.out] at HOU HFU
        go_roundw
        case rel => exact ⟨k + 1, by omega, by simp, HBU, HOU, HFU⟩
        case measure => simp [intOf]; omega
      · have hmf : (sk.2 (x, y)).isSome = false := by simpa using hmt
        have HE : Hid (BG (k + 1) = (sk.1 ++ [(x, y)], fun z => if z = (x, y) then some 0 else sk.2 z)) := by
          rw [HM5.out]; unfold visitG
          rw [if_neg hmt]; exact hid rfl
        have HPV : Hid (putF (valF sk.2) (x, y) (.int .i64 0) = valF (fun z => if z = (x, y) then some 0 else sk.2 z)) := putF_val sk.2 (x, y) 0
        go_upto_region 8 with (at_lookup; (with_reducible refine wpL_look2 3 Try.underlying54 (.int .i64 0) zero3 D (valF sk.2) x y ?_ ?_ HFU.out ?_); (rfl); (rfl); (rw [valF_get, valF_some, hmf]))
        obtain ⟨qp, qc, rfl⟩ := HOU.out.form
        go_upto_region 9 with (at_mapUpdate; (with_reducible refine wpL_upd 3 Try.underlying54 D (valF sk.2) x y (.int .i64 0) ?_ ?_ ?_ ?_ ?_); (rfl); (rfl); (rfl); (exact HFU.out); (intro w4 hf4 ht4); (rw [HPV.out] at hf4))
        have HB4 : Hid (Below D V w4) := HBU.out.trans (ht4.below (Nat.le_refl _))
        have HO4 : Hid (OwnC w4 (D + 1) (.slice qp sk.1.length qc) sk.1) := HOU.out.stay fun j hj => ht4.block j (by have := (HOU.out.block j hj).1; omega)
        have HG4 : Hid (Blk w4 g [.int .i64 x, .int .i64 y] 37) := by
          have := HUG.out
          unfold Blk at this ⊢
          rw [ht4.block g (by omega)]; exact this
        have HF4 := hid hf4
        have g4 : w4.cell? ⟨g, 0, none⟩ = some (.int .i64 x) := HG4.out.cell 0
        have g5 : w4.cell? ⟨g, 1, none⟩ = some (.int .i64 y) := HG4.out.cell 1
        clear hf4 ht4 g0 g1 HBU HOU HFU HUG
        obtain ⟨Z, hZ⟩ : ∃ Z, Z = w4.alloc (.cells #[Value.int .i64 x, .int .i64 y] 37) := ⟨_, rfl⟩
        have HZB : Hid (Below w4.heap.size w4 Z) := by rw [hZ]; exact (Below.refl _ _).alloc (Nat.le_refl _) _
        have HZG : Hid (Blk Z w4.heap.size [.int .i64 (x, y).1, .int .i64 (x, y).2] 37) := by rw [hZ]; exact Blk.new _ _ _
        have HD4 : Hid (D + 1 ≤ w4.heap.size) := HF4.out.lt
        have HDZ : Hid (D + 1 ≤ Z.heap.size) := Nat.le_trans HD4.out HZB.out.size
        have HBZ := hid (HB4.out.trans (HZB.out.mono (by have := HD4.out; omega)))
        have HOZ : Hid (OwnC Z (D + 1) (.slice qp sk.1.length qc) sk.1) := HO4.out.below HZB.out
        have HFZ := hid (HF4.out.below HZB.out HF4.out.lt)
        have HSL : Hid (sk.1.length ≤ 1000000) := hid (by have := HL5.out; omega)
        rw [hZ] at HZG HDZ HBZ HOZ HFZ
        clear hZ HZB
        go_upto_region 10 with (first
          | ((with_reducible refine wpL_appendC (D + 1) (.slice qp sk.1.length qc) w4.heap.size sk.1 (x, y) ?_ ?_ HOZ.out HZG.out HSL.out HDZ.out ?_); (rfl); (rfl); (intro v' w5 ho5 hg5); (have HB5 : Hid (Below D V w5) := HBZ.out.trans ((hg5.belowC HOZ.out HDZ.out).mono (Nat.le_succ D))); (have HF5 := hid (HFZ.out.below (hg5.belowC HOZ.out HDZ.out) (Nat.lt_succ_self D))); (have HO5 := hid ho5); clear ho5 hg5; (simp only [Act.put, List.setIfInBounds_toArray, List.set_cons_zero, List.set_cons_succ])))
        rw [show sk.1 ++ [(x, y)] = (BG (k + 1)).1 by rw [HE.out]] at HO5
        rw [show (fun z => if z = (x, y) then some 0 else sk.2 z) = (BG (k + 1)).2 by rw [HE.out]] at HF5
        go_wp2
        go_roundw
        case rel => exact ⟨k + 1, by omega, by simp, HB5, HO5, HF5⟩
        case measure => simp [intOf]; omega
    · obtain rfl : k = N := by omega
      have hl' : ((k : Int) < (k : Int)) = False := by simp
      clear HB HBN HBL hl hk
      generalize BG k = s0 at *
      go_upto_region 12 with fail
      clear hl'
      obtain ⟨qp, qc, rfl⟩ := HO1.out.form
      go_loopw [13, 8] (fun iv lv wr => ∃ i s, iv = .int .i64 ((i : Nat) : Int) ∧ Hid (InvG m bl gs i s) ∧ Hid (Below D V wr) ∧ Hid (OwnC wr (D + 1) lv s.1) ∧ Hid (FMap wr D (valF s.2))) (fun iv _ _ => 401 - (intOf iv).toNat)
      case atStart => exact ⟨0, _, rfl, HIB, HB1, HO1, HF1⟩
      case round =>
        clear HB1 HO1 HF1 HIB
        obtain ⟨i, s, rfl, HI, HB1, HO1, HF1⟩ := hrel
        obtain ⟨p, cap, rfl⟩ := HO1.out.form
        obtain ⟨n, hn⟩ : ∃ n, n = s.1.length := ⟨_, rfl⟩
        obtain ⟨hn4, hin⟩ := HIL.out i s HI.out
        rw [← hn] at hn4 hin ⊢
        by_cases hl : i < n
        · obtain ⟨x, hx⟩ : ∃ x, x = s.1.getD i (0, 0) := ⟨_, rfl⟩
          obtain ⟨x1, x2⟩ := x
          have HX : Hid (s.1[i]? = some (x1, x2)) := by
            rw [hx, List.getD_eq_getElem?_getD, List.getElem?_eq_getElem (by omega)]; rfl
          obtain ⟨sb, so, rfl, d0, d1⟩ : ∃ sb so, p = some ⟨sb, so, none⟩ ∧ wr.cell? ⟨sb, so + i * 2, none⟩ = some (.int .i64 x1) ∧ wr.cell? ⟨sb, so + i * 2 + 1, none⟩ = some (.int .i64 x2) := by
            have h := HO1.out.cells.at (i := i) (by omega)
            rw [← hx] at h
            exact h
          have HN := hid (fun (_ : Nat) => hn)
          have hl' : (i : Int) < (n : Int) := by omega
          have hxi := HII.out i s _ HI.out HX.out
          have hsx := HSH.out _ hxi
          have hs1 : (SF (x1, x2)).getD (.agg #[]) = .agg #[] := HSG.out _
          have HI2 := hid (HIN.out i s (x1, x2) HI.out HX.out)
          obtain ⟨U, hU⟩ : ∃ U, U = wr.alloc (.cells #[Value.int .i64 x1, .int .i64 x2] 37) := ⟨_, rfl⟩
          obtain ⟨g, hg⟩ : ∃ g, g = wr.heap.size := ⟨_, rfl⟩
          have HUB : Hid (Below g wr U) := by rw [hU, hg]; exact (Below.refl _ _).alloc (Nat.le_refl _) _
          have HUG : Hid (Blk U g [.int .i64 x1, .int .i64 x2] 37) := by rw [hU, hg]; exact Blk.new _ _ _
          have hDg : D < g := by rw [hg]; exact HF1.out.lt
          have HBU := hid (HB1.out.trans (HUB.out.mono (by omega)))
          have HOU : Hid (OwnC U (D + 1) (.slice (some ⟨sb, so, none⟩) n cap) s.1) := by rw [HN.out 0]; exact HO1.out.below (by rw [← hg]; exact HUB.out)
          have HFU : Hid (FMap U D (valF s.2)) := HF1.out.below HUB.out hDg
          have HF9U : Hid (FMap U b9 SF) := HSB.out _ (HBE.out _ HBU.out)
          have hgU : U.heap.size = g + 1 := by rw [hU, hg]; simp
          have HNG0 : Hid (Value.ownBlock (.slice (some ⟨sb, so, none⟩) n cap) ≠ some g) := hid fun he => by
            have := (HO1.out.block g he).2
            omega
          clear hx hn hxi
          go_upto_region 15 with fail
          rw [← hU, ← hg]
          have g0 : U.cell? ⟨g, 0, none⟩ = some (.int .i64 x1) := HUG.out.cell 0
          have g1 : U.cell? ⟨g, 1, none⟩ = some (.int .i64 x2) := HUG.out.cell 1
          clear hU hg HUB HB1 HO1 HF1 d0 d1
          obtain ⟨Y, hY⟩ : ∃ Y, Y = U.alloc (.cells #[] 70) := ⟨_, rfl⟩
          have HUY : Hid (Below U.heap.size U Y) := by rw [hY]; exact (Below.refl _ _).alloc (Nat.le_refl _) _
          have HBY := hid (HBU.out.trans (HUY.out.mono (by omega)))
          have HOY : Hid (OwnC Y (D + 1) (.slice (some ⟨sb, so, none⟩) n cap) s.1) := HOU.out.below HUY.out
          have HFY : Hid (FMap Y D (valF s.2)) := HFU.out.below HUY.out HFU.out.lt
          have HGY : Hid (Blk Y g [.int .i64 x1, .int .i64 x2] 37) := HUG.out.below HUY.out (by omega)
          go_upto_region 16 with (at_lookup; (with_reducible refine wpL_look2 70 Try.underlying51 (.agg #[]) zero61 b9 SF x1 x2 ?_ ?_ HF9U.out ?_); (rfl); (rfl); (rw [hs1, hsx]))
          rw [← hY]
          clear hY HUY HBU HOU HFU HF9U HUG g0 g1 hs1 hsx
          cases ho : opn m bl gs (x1, x2) with
          | false =>
            have HI3 : Hid (InvG m bl gs (i + 1) s) := by
              have := HI2.out
              unfold roundG at this
              rw [if_neg (by rw [ho]; simp)] at this
              exact hid this
            have HWK : Hid (wrap64 ((i : Int) + 1) = (i : Int) + 1) := hid (wrap_small (by omega))
            have HME := hid (And.intro hl hn4)
            clear hgU hDg hn4 hin hl HN
            go_upto_region 13 with fail
            go_wp2
            go_roundw
            case rel => exact ⟨i + 1, s, by rw [HWK.out]; simp, HI3, HBY, HOY, HFY⟩
            case measure =>
              have := HME.out
              rw [HWK.out]
              simp [intOf]; omega
          | true =>
            have HGm := hid hn4
            have HIn := hid hl
            obtain ⟨a0, a1, a2, a3⟩ := HK.out _ HBY.out
            have g0 : Y.cell? ⟨g, 0, none⟩ = some (.int .i64 x1) := HGY.out.cell 0
            have g1 : Y.cell? ⟨g, 1, none⟩ = some (.int .i64 x2) := HGY.out.cell 1
            have hgY : g < Y.heap.size := HGY.out.lt
            have HBWY := hid (HBE.out _ HBY.out)
            clear hgU hn4 hin
            go_wp2_with fail
            refine Calls.mono (h40.out x1 x2 _ HBWY.out) ?_
            rintro e w3 ⟨vn, rfl, hon, hbn⟩
            obtain ⟨pn, capn, rfl⟩ := hon.form
            clear a0 a1 a2 a3 g0 g1 HBWY
            go_upto_region 18 with fail
            obtain ⟨l, hle⟩ : ∃ l, l = near m x1 x2 := ⟨_, rfl⟩
            rw [← hle] at hon ⊢
            have HLE := hid (fun (_ : Nat) => hle)
            clear hle
            obtain ⟨X, hX⟩ : ∃ X, X = Y.heap.size := ⟨_, rfl⟩
            rw [← hX] at hon hbn hgY
            have hle := HLE.out 0
            obtain ⟨dd, hd1, hd2⟩ := HI.out.at HX.out
            have HI3 : Hid (InvG m bl gs (i + 1) (midG (dd + 1) s l l.length)) := by
              have h2 := HI2.out
              rw [roundG_mid ho hd1, ← hle] at h2
              exact hid h2
            have HL4 : Hid (l.length ≤ 4) := by rw [hle]; exact hid (HNL.out (x1, x2))
            have hnr : ∀ x ∈ l, inn m x = true := by rw [hle]; exact fun x hx => HNI.out (x1, x2) x hx
            have HLI : Hid (∀ k, k < l.length → inn m (l.getD k (0, 0)) = true) := fun k hk => hnr _ (by
              rw [List.getD_eq_getElem?_getD, List.getElem?_eq_getElem hk, Option.getD_some]
              exact List.getElem_mem hk)
            have HMF := hid (fun k => midG_facts (d := dd + 1) hd1 (HIL.out i s HI.out).1 l HL4.out k)
            have HMN := hid (fun k (hk : k < l.length) => midG_next (dd + 1) s hk)
            have HM0 : Hid (midG (dd + 1) s l 0 = s) := hid rfl
            have HB3 : Hid (Below D V w3) := HBY.out.trans (hbn.mono (by omega))
            have HO3 : Hid (OwnC w3 (D + 1) (.slice (some ⟨sb, so, none⟩) n cap) s.1) := HOY.out.below (by rw [← hX]; exact hbn)
            have HF3 : Hid (FMap w3 D (valF s.2)) := HFY.out.below hbn (by omega)
            have HG3 : Hid (Blk w3 g [.int .i64 x1, .int .i64 x2] 37) := HGY.out.below hbn hgY
            have HOn : Hid (OwnC w3 X (.slice pn l.length capn) l) := hid hon
            have HAp : Hid (∀ j, Value.ownBlock (.slice pn l.length capn) = some j → Value.ownBlock (.slice (some ⟨sb, so, none⟩) n cap) ≠ some j) := by
              intro j hj he
              have h1 := (HOn.out.block j hj).1
              have h2 := (HOY.out.block j he).2
              omega
            have HdD : Hid (D < g ∧ g < X) := hid ⟨hDg, hgY⟩
            have HNa : Hid (∀ k, k < l.length → ∃ b o, pn = some ⟨b, o, none⟩) := fun k hk => by
              obtain ⟨b, o, h, _⟩ := HOn.out.cells.at hk
              exact ⟨b, o, h⟩
            have HDN : Hid (dd ≤ 400 ∧ i ≤ 400) := hid (by have := HIn.out; have := HGm.out; omega)
            rw [← HM0.out] at HO3 HF3
            clear hon hbn hle hnr HBY HOY HFY HGY HI2 HM0 hl hl' hd1 hd2 hDg hgY hX
            go_loopw [64, 8] (fun iv lv wr => ∃ k, iv = .int .i64 ((k : Nat) : Int) ∧ k ≤ l.length ∧ Hid (Below D V wr) ∧ Hid (OwnC wr (D + 1) lv (midG (dd + 1) s l k).1) ∧ Hid (FMap wr D (valF (midG (dd + 1) s l k).2)) ∧ Hid (OwnC wr X (.slice pn l.length capn) l) ∧ Hid (∀ j, Value.ownBlock (.slice pn l.length capn) = some j → Value.ownBlock lv ≠ some j) ∧ Hid (Blk wr g [.int .i64 x1, .int .i64 x2] 37) ∧ Hid (Value.ownBlock lv ≠ some g)) (fun iv _ _ => 5 - (intOf iv).toNat)
            case atStart => exact ⟨0, rfl, by omega, HB3, HO3, HF3, HOn, HAp, HG3, HNG0⟩
            case round =>
              clear HB3 HO3 HF3 HOn HAp HG3 HNG0
              obtain ⟨k, rfl, hkl, HB4, HO4, HF4, HOn, HAp, HG4, HNG⟩ := hrel
              obtain ⟨f1, f2⟩ := HMF.out k
              by_cases hl : k < l.length
              · have hl' : (k : Int) < (l.length : Int) := by omega
                have hl4 := HL4.out
                have HWK : Hid (wrap64 ((k : Int) + 1) = (k : Int) + 1) := hid (wrap_small (by omega))
                have HMk := hid (HMN.out k hl)
                obtain ⟨nb, no, rfl, d0, d1⟩ := HOn.out.cells.at hl
                generalize l.getD k (0, 0) = nn at *
                obtain ⟨n1, n2⟩ := nn
                simp only at d0 d1
                generalize midG (dd + 1) s l k = sk at *
                obtain ⟨U, hU⟩ : ∃ U, U = wr.alloc (.cells #[Value.int .i64 n1, .int .i64 n2] 37) := ⟨_, rfl⟩
                obtain ⟨h, hh⟩ : ∃ h, h = wr.heap.size := ⟨_, rfl⟩
                have HUB : Hid (Below h wr U) := by rw [hU, hh]; exact (Below.refl _ _).alloc (Nat.le_refl _) _
                have HUG : Hid (Blk U h [.int .i64 n1, .int .i64 n2] 37) := by rw [hU, hh]; exact Blk.new _ _ _
                have HgH : Hid (g < h) := by rw [hh]; exact hid HG4.out.lt
                have HBU := hid (HB4.out.trans (HUB.out.mono (by have := HdD.out; have := HgH.out; omega)))
                have HOU : Hid (OwnC U (D + 1) u8 sk.1) := HO4.out.below (by rw [← hh]; exact HUB.out)
                have HFU : Hid (FMap U D (valF sk.2)) := HF4.out.below HUB.out (by have := HdD.out; have := HgH.out; omega)
                have HOnU : Hid (OwnC U X (.slice (some ⟨nb, no, none⟩) l.length capn) l) := HOn.out.below (by rw [← hh]; exact HUB.out)
                have HGU : Hid (Blk U g [.int .i64 x1, .int .i64 x2] 37) := HG4.out.below HUB.out HgH.out
                have HKL := hid hl
                clear hl4 hkl hl
                go_upto_region 20 with fail
                rw [← hU, ← hh]
                have g0 : U.cell? ⟨h, 0, none⟩ = some (.int .i64 n1) := HUG.out.cell 0
                have g1 : U.cell? ⟨h, 1, none⟩ = some (.int .i64 n2) := HUG.out.cell 1
                clear hU hh HUB HB4 HO4 HF4 HOn HG4 d0 d1 hl'
                by_cases hmt : (sk.2 (n1, n2)).isSome = true
                · have HE : Hid (midG (dd + 1) s l (k + 1) = sk) := by rw [HMk.out]; unfold visitG; rw [if_pos hmt]; exact hid rfl
                  go_wp2_with (at_lookup; (with_reducible refine wpL_look2 3 Try.underlying54 (.int .i64 0) zero3 D (valF sk.2) n1 n2 ?_ ?_ HFU.out ?_); (rfl); (rfl); (rw [valF_get, valF_some, hmt]))
                  rw [← HE.out] at HOU HFU
                  go_roundw
                  case rel => exact ⟨k + 1, by rw [HWK.out]; simp, HKL.out, HBU, HOU, HFU, HOnU, HAp, HGU, HNG⟩
                  case measure =>
                    have := HL4.out
                    have := HKL.out
                    rw [HWK.out]
                    simp [intOf]; omega
                · have hmf : (sk.2 (n1, n2)).isSome = false := by simpa using hmt
                  have HE : Hid (midG (dd + 1) s l (k + 1) = (sk.1 ++ [(n1, n2)], fun z => if z = (n1, n2) then some (dd + 1) else sk.2 z)) := by
                    rw [HMk.out]; unfold visitG
                    rw [if_neg hmt]; exact hid rfl
                  go_upto_region 22 with (at_lookup; (with_reducible refine wpL_look2 3 Try.underlying54 (.int .i64 0) zero3 D (valF sk.2) n1 n2 ?_ ?_ HFU.out ?_); (rfl); (rfl); (rw [valF_get, valF_some, hmf]))
                  obtain ⟨tp, tq, rfl⟩ := HOU.out.form
                  have hlk := FMap.look1 (w := U.drew) (HFU.out.keep rfl) 54 3 Try.underlying54 (.int .i64 0) (zero3 _) x1 x2
                  rw [valF_get, f1, Option.getD_some] at hlk
                  have HPV : Hid (putF (valF sk.2) (n1, n2) (.int .i64 ((dd : Int) + 1)) = valF (fun x => if x = (n1, n2) then some (dd + 1) else sk.2 x)) := putF_val sk.2 (n1, n2) (dd + 1)
                  have hwd2 : IntKind.i64.wrap ((dd : Int) + 1) = (dd : Int) + 1 := by have := HDN.out; rw [IntKind.wrap_i64]; omega
                  have hwd : wrap64 ((dd : Int) + 1) = (dd : Int) + 1 := wrap_small (by have := HDN.out; omega)
                  have g2 : U.cell? ⟨g, 0, none⟩ = some (.int .i64 x1) := HGU.out.cell 0
                  have g3 : U.cell? ⟨g, 1, none⟩ = some (.int .i64 x2) := HGU.out.cell 1
                  clear hmt hmf
                  go_still_tail 6, (by kernel_rfl)
                  go_upto_region 23 with (at_mapUpdate; (with_reducible refine wpL_upd 3 Try.underlying54 D (valF sk.2) n1 n2 (.int .i64 ((dd : Int) + 1)) ?_ ?_ ?_ ?_ ?_); (rfl); (rfl); (rfl); (exact HFU.out); (intro w4 hf4 ht4); (replace ht4 := Turn.undrew (w := U) ht4); (rw [HPV.out] at hf4))
                  have HB4 : Hid (Below D V w4) := HBU.out.trans (ht4.below (Nat.le_refl _))
                  have HO4 : Hid (OwnC w4 (D + 1) (.slice tp sk.1.length tq) sk.1) := HOU.out.stay fun j hj => ht4.block j (by have := (HOU.out.block j hj).1; omega)
                  have HOn4 : Hid (OwnC w4 X (.slice (some ⟨nb, no, none⟩) l.length capn) l) := HOnU.out.stay fun j hj => ht4.block j (by have := (HOnU.out.block j hj).1; have := HdD.out; omega)
                  have HG4 : Hid (Blk w4 h [.int .i64 n1, .int .i64 n2] 37) := by
                    have := HUG.out
                    unfold Blk at this ⊢
                    rw [ht4.block h (by have := HdD.out; have := HgH.out; omega)]; exact this
                  have HC4 : Hid (Blk w4 g [.int .i64 x1, .int .i64 x2] 37) := by
                    have := HGU.out
                    unfold Blk at this ⊢
                    rw [ht4.block g (by have := HdD.out; omega)]; exact this
                  have HF4 := hid hf4
                  have g4 : w4.cell? ⟨h, 0, none⟩ = some (.int .i64 n1) := HG4.out.cell 0
                  have g5 : w4.cell? ⟨h, 1, none⟩ = some (.int .i64 n2) := HG4.out.cell 1
                  clear hf4 ht4 hlk hwd hwd2 g0 g1 g2 g3 HBU HOU HFU HOnU HUG HGU
                  obtain ⟨Z, hZ⟩ : ∃ Z, Z = w4.alloc (.cells #[Value.int .i64 n1, .int .i64 n2] 37) := ⟨_, rfl⟩
                  have HZB : Hid (Below w4.heap.size w4 Z) := by rw [hZ]; exact (Below.refl _ _).alloc (Nat.le_refl _) _
                  have HZG : Hid (Blk Z w4.heap.size [.int .i64 (n1, n2).1, .int .i64 (n1, n2).2] 37) := by rw [hZ]; exact Blk.new _ _ _
                  have HD4 : Hid (D + 1 ≤ w4.heap.size) := HF4.out.lt
                  have HDZ : Hid (D + 1 ≤ Z.heap.size) := Nat.le_trans HD4.out HZB.out.size
                  have HBZ := hid (HB4.out.trans (HZB.out.mono (by have := HD4.out; omega)))
                  have HOZ : Hid (OwnC Z (D + 1) (.slice tp sk.1.length tq) sk.1) := HO4.out.below HZB.out
                  have HFZ := hid (HF4.out.below HZB.out HF4.out.lt)
                  have HOnZ : Hid (OwnC Z X (.slice (some ⟨nb, no, none⟩) l.length capn) l) := HOn4.out.below HZB.out
                  have HCZ : Hid (Blk Z g [.int .i64 x1, .int .i64 x2] 37) := HC4.out.below HZB.out HC4.out.lt
                  have HSL : Hid (sk.1.length ≤ 1000000) := hid (by omega)
                  rw [hZ] at HZG HDZ HBZ HOZ HFZ HOnZ HCZ
                  clear hZ HZB
                  go_upto_region 24 with (first
                    | ((with_reducible refine wpL_appendC (D + 1) (.slice tp sk.1.length tq) w4.heap.size sk.1 (n1, n2) ?_ ?_ HOZ.out HZG.out HSL.out HDZ.out ?_); (rfl); (rfl); (intro v' w5 ho5 hg5); (have HB5 : Hid (Below D V w5) := HBZ.out.trans ((hg5.belowC HOZ.out HDZ.out).mono (Nat.le_succ D))); (have HF5 := hid (HFZ.out.below (hg5.belowC HOZ.out HDZ.out) (Nat.lt_succ_self D))); (have HO5 := hid ho5); (have HC5 : Hid (Blk w5 g [.int .i64 x1, .int .i64 x2] 37) := (by have h1 := HCZ.out; unfold Blk at h1 ⊢; rw [hg5.block g HCZ.out.lt HNG.out]; exact h1)); (have HOn5 : Hid (OwnC w5 X (.slice (some ⟨nb, no, none⟩) l.length capn) l) := HOnZ.out.stay fun j hj => hg5.block j (HOnZ.out.block j hj).2 (HAp.out j hj)); (have HAp5 : Hid (∀ j, Value.ownBlock (.slice (some ⟨nb, no, none⟩) l.length capn) = some j → Value.ownBlock v' ≠ some j) := (by intro j hj he; rcases hg5.pl with h | h; (rw [h] at he; exact HAp.out j hj he); (have h1 := h j he; have h2 := (HOnZ.out.block j hj).2; omega))); (have HNG5 : Hid (Value.ownBlock v' ≠ some g) := hid (by intro he; rcases hg5.pl with h1 | h1; (rw [h1] at he; exact HNG.out he); (have h2 := h1 g he; have h3 := HCZ.out.lt; omega))); clear ho5 hg5; (simp only [Act.put, List.setIfInBounds_toArray, List.set_cons_zero, List.set_cons_succ])))
                  rw [show sk.1 ++ [(n1, n2)] = (midG (dd + 1) s l (k + 1)).1 by rw [HE.out]] at HO5
                  rw [show (fun x => if x = (n1, n2) then some (dd + 1) else sk.2 x) = (midG (dd + 1) s l (k + 1)).2 by rw [HE.out]] at HF5
                  go_wp2
                  go_roundw
                  case rel => exact ⟨k + 1, by rw [HWK.out]; simp, HKL.out, HB5, HO5, HF5, HOn5, HAp5, HC5, HNG5⟩
                  case measure =>
                    have := HL4.out
                    have := HKL.out
                    rw [HWK.out]
                    simp [intOf]; omega
              · obtain rfl : k = l.length := by omega
                have hl' : ((l.length : Int) < (l.length : Int)) = False := by simp
                have HWK : Hid (wrap64 ((i : Int) + 1) = (i : Int) + 1) := hid (wrap_small (by have := HDN.out; omega))
                clear hkl hl
                go_wp2
                go_roundw
                case rel => exact ⟨i + 1, _, by rw [HWK.out]; simp, HI3, HB4, HO4, HF4⟩
                case measure =>
                  have := HIn.out
                  have := HGm.out
                  rw [HWK.out]
                  simp [intOf]; omega
        · obtain rfl : i = n := by omega
          have hl' : ((i : Int) < (i : Int)) = False := by simp
          have HR := hid (HID.out i s HI.out (by omega))
          clear hn
          go_wp2
          go_ret
          rw [← HBe.out 0]
          exact ⟨D, s.2, rfl, by have := HDE.out 0; omega, HF1.out, HR.out, HBE.out _ HB1.out⟩
end Go.Proofs.Ytgkjlfpkhpnpfaa
