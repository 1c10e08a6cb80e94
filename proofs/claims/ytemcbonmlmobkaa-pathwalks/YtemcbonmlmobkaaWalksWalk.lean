/- The law PathWalks: its walk. -/
import Derived.Test.YtemcbonmlmobkaaWalksWay
import Derived.Test.YtemcbonmlmobkaaOpen4
import Derived.Test.YtemcbonmlmobkaaIn
namespace Go.Proofs.Ytemcbonmlmobkaa
open Go.RowKit
attribute [local go_sem ↓] run_neqC run_eqlC
theorem OwnC.cap {w : World} {b : Nat} {p : Option Addr} {n c : Nat} {xs : List Cl} (h : OwnC w b (.slice p n c) xs) : xs.length ≤ c := by
  obtain ⟨_, ⟨e, hn⟩ | ⟨g, cap, cur, e, _, _, hc, _⟩⟩ := h
  · rw [hn]; omega
  · simp only [Value.slice.injEq] at e
    omega
set_option maxRecDepth 4000 in
set_option maxHeartbeats 4000000 in
theorem walks_walk (m : Mp) (v : Value) (p : Option Addr) (N cap : Nat) (bl : List Cl) (x0 y0 x1 y1 : Int) (w : World) (hm : MapAt w v m) (hbl : CellsAt w (.slice p N cap) bl) :
    Calls Try.prog 4 #[v, .slice p N cap, .agg #[.int .i64 x0, .int .i64 y0, .int .i64 x1, .int .i64 y1]] w fun e w' => Out w (.bool true) e w' := by
  have h8 : Hid (∀ W, Calls Try.prog 8 #[] W fun e w' => Out W (.bool true) e w') := awake_any
  have HLN : Hid (N = bl.length) := by
    obtain ⟨q, c, e, _⟩ := hbl
    simp only [Value.slice.injEq] at e
    exact e.2.1
  have h10 : Hid (N ≤ 300 → ∀ ax ay bx by_ W, Below w.heap.size w W → Calls Try.prog 10 #[v, .slice p N cap, C ax ay, C bx by_, .int .i64 1000] W fun e w' => OutFind W (findV m bl (ax, ay) (bx, by_) 1000) e w') := fun hN ax ay bx by_ W h => find_any m v _ bl ax ay bx by_ 1000 W (hm.below h) (hbl.below h) (by rw [← HLN.out]; omega)
  have h15 : Hid (∀ ax ay bx by_ W, Calls Try.prog 15 #[C ax ay, C bx by_] W fun e w' => Out W (.int .i64 (dist ax ay bx by_)) e w') := dist_any
  have h16 : Hid (∀ x y W, Below w.heap.size w W → Calls Try.prog 16 #[v, C x y] W fun e w' => Out W (.bool (formed m && inn m (x, y))) e w') := fun x y W h => inside_any m v x y W (hm.below h)
  have h18 : Hid (∀ x y W, Below w.heap.size w W → Calls Try.prog 18 #[v, C x y] W fun e w' => Out W (.bool (free m x y)) e w') := fun x y W h => free_any m v x y W (hm.below h)
  have h17 : Hid (∀ (cs : List Cl) p N cap x y W, CellsAt W (.slice p N cap) cs → N ≤ 1000 → Calls Try.prog 17 #[.slice p N cap, C x y] W fun e w' => Out W (.bool (cs.contains (x, y))) e w') := fun cs p N cap x y W h hN => in_any cs p N cap x y W h hN
  have HBL : Hid (∀ W, Below w.heap.size w W → CellsAt W (.slice p N cap) bl) := fun W h => hbl.below h
  have HF : Hid (∀ l e, findV m bl (x0, y0) (x1, y1) 1000 = (l, e) → e ≠ 0 ∧ l = [] ∨ e = 0 ∧ l.length ≤ 1000 ∧ formed m = true ∧ Walks m bl (x0, y0) (x1, y1) l) := by
    intro l e h
    rcases findV_ok h with ⟨he, n, hf, ha, hb, hd, hn, hl, hln⟩ | ⟨he, hl⟩
    · refine Or.inr ⟨he, by omega, hf, ?_⟩
      rw [hl]
      exact walks_facts hf ha hb hd
    · exact Or.inl ⟨he, hl⟩
  obtain ⟨q1, c1, q2, c2, rfl, -, -⟩ := hm
  have h9 : Hid (∀ W, Calls Try.prog 9 #[.agg #[.int .i64 m.W, .int .i64 m.H, .slice q1 m.ts.length c1, .slice q2 m.os.length c2], .slice p N cap] W fun e w' => Out W (.bool (decide (m.ts.length ≤ 1000) && decide (m.os.length ≤ 1000) && decide (N ≤ 300))) e w') := fun W => few_any m.W m.H q1 q2 p m.ts.length m.os.length N c1 c2 cap W
  obtain ⟨FW, hFW⟩ : ∃ FW, FW = (decide (m.ts.length ≤ 1000) && decide (m.os.length ≤ 1000) && decide (N ≤ 300)) := ⟨_, rfl⟩
  have HFW : Hid (FW = true → N ≤ 300) := fun h => by
    rw [hFW] at h
    simp only [Bool.and_eq_true, decide_eq_true_eq] at h
    exact h.2
  rw [← hFW] at h9
  obtain ⟨S1, hS1⟩ : ∃ z, z = Value.slice q1 m.ts.length c1 := ⟨_, rfl⟩
  obtain ⟨S2, hS2⟩ : ∃ z, z = Value.slice q2 m.os.length c2 := ⟨_, rfl⟩
  obtain ⟨S3, hS3⟩ : ∃ z, z = Value.slice p N cap := ⟨_, rfl⟩
  obtain ⟨mW, hmW⟩ : ∃ z, z = m.W := ⟨_, rfl⟩
  obtain ⟨mH, hmH⟩ : ∃ z, z = m.H := ⟨_, rfl⟩
  rw [← hS1, ← hS2, ← hmW, ← hmH] at h16 h18 h10 h9 ⊢
  rw [← hS3] at h10 h9 HBL ⊢
  have HS3 := hid (fun (_ : Nat) => hS3)
  clear hS1 hS2 hS3 hmW hmH hFW hbl
  unfold C Out at *
  go_enter Try.func4, Try.ntmps4
  go_upto_region 1 with fail
  obtain ⟨W, hW⟩ : ∃ W, W = ((w.alloc (.cells #[Value.int .i64 mW, .int .i64 mH, S1, S2] 24)).alloc (.cells #[Value.int .i64 x0, .int .i64 y0, .int .i64 x1, .int .i64 y1] 28)) := ⟨_, rfl⟩
  obtain ⟨B, hB⟩ : ∃ B, B = w.heap.size := ⟨_, rfl⟩
  have HWB : Hid (Below w.heap.size w W) := by rw [hW]; exact ((Below.refl _ _).alloc (Nat.le_refl _) _).alloc (by simp) _
  have HK1 : Hid (Blk W B [.int .i64 mW, .int .i64 mH, S1, S2] 24) := by rw [hW, hB]; exact (Blk.new _ _ _).alloc _
  have HK2 : Hid (Blk W (B + 1) [.int .i64 x0, .int .i64 y0, .int .i64 x1, .int .i64 y1] 28) := by rw [hW]; exact Blk.new' _ _ _ _ (by simp [hB])
  rw [← hW, ← hB]
  clear hW hB
  go_wp2_with fail
  refine Calls.mono (h8.out W) ?_
  rintro e w2 ⟨rfl, hb2⟩
  have HW2 := hid (HWB.out.trans (hb2.mono HWB.out.size))
  have HM2 := hid (HK1.out.below hb2 HK1.out.lt)
  have HG2 := hid (HK2.out.below hb2 HK2.out.lt)
  have m0 : w2.cell? ⟨B, 0, none⟩ = some (.int .i64 mW) := HM2.out.cell 0
  have m1 : w2.cell? ⟨B, 1, none⟩ = some (.int .i64 mH) := HM2.out.cell 1
  have m2 : w2.cell? ⟨B, 2, none⟩ = some S1 := HM2.out.cell 2
  have m3 : w2.cell? ⟨B, 3, none⟩ = some S2 := HM2.out.cell 3
  clear hb2 HWB HK1 HK2
  go_wp2_with fail
  refine Calls.mono (h9.out w2) ?_
  rintro e w3 ⟨rfl, hb3⟩
  have HW3 := hid (HW2.out.trans (hb3.mono HW2.out.size))
  have HM3 := hid (HM2.out.below hb3 HM2.out.lt)
  have HG3 := hid (HG2.out.below hb3 HG2.out.lt)
  clear hb3 HW2 HM2 HG2 m0 m1 m2 m3
  rcases FW with _ | _
  · go_wp2_with fail
    refine Calls.mono (h8.out w3) ?_
    rintro e w4 ⟨rfl, hb4⟩
    have HB4 := hid (HW3.out.trans (hb4.mono HW3.out.size))
    clear hb4
    go_wp2
    go_ret
    exact ⟨rfl, HB4.out⟩
  · have hN := HFW.out rfl
    have HN3 := hid hN
    have H10 := hid (h10.out hN)
    clear h10 h9 h8 HFW hN
    have H10a := hid (H10.out x0 y0 x1 y1)
    obtain ⟨R, hR⟩ : ∃ R, R = findV m bl (x0, y0) (x1, y1) 1000 := ⟨_, rfl⟩
    rw [← hR] at H10a
    obtain ⟨l, e⟩ := R
    have HFl := HF.out l e hR.symm
    clear hR HF
    have c0 : w3.cell? ⟨B + 1, 0, none⟩ = some (.int .i64 x0) := HG3.out.cell 0
    have c1 : w3.cell? ⟨B + 1, 1, none⟩ = some (.int .i64 y0) := HG3.out.cell 1
    have c2 : w3.cell? ⟨B + 1, 2, none⟩ = some (.int .i64 x1) := HG3.out.cell 2
    have c3 : w3.cell? ⟨B + 1, 3, none⟩ = some (.int .i64 y1) := HG3.out.cell 3
    have m0 : w3.cell? ⟨B, 0, none⟩ = some (.int .i64 mW) := HM3.out.cell 0
    have m1 : w3.cell? ⟨B, 1, none⟩ = some (.int .i64 mH) := HM3.out.cell 1
    have m2 : w3.cell? ⟨B, 2, none⟩ = some S1 := HM3.out.cell 2
    have m3 : w3.cell? ⟨B, 3, none⟩ = some S2 := HM3.out.cell 3
    go_wp2_with fail
    refine Calls.mono (H10a.out w3 HW3.out) ?_
    rintro e' w4 ⟨s, rfl, ho, hb4⟩
    have HW4 := hid (HW3.out.trans (hb4.mono HW3.out.size))
    have HM4 := hid (HM3.out.below hb4 HM3.out.lt)
    have HG4 := hid (HG3.out.below hb4 HG3.out.lt)
    have HO4 := hid ho
    obtain ⟨p2, k2, rfl⟩ := ho.form
    clear hb4 ho HW3 HM3 HG3 c0 c1 c2 c3 m0 m1 m2 m3 H10a
    rcases HFl with ⟨he, rfl⟩ | ⟨rfl, hl, hfm, hwk⟩
    · have hne : (e != 0) = true := by simpa using he
      go_wp2
      go_ret
      exact ⟨rfl, HW4.out⟩
    · have HWK := hid hwk
      have HFM := hid hfm
      have HL := hid hl
      obtain ⟨n, hn⟩ : ∃ n, n = l.length := ⟨_, rfl⟩
      rw [← hn] at hl ⊢
      have HN := hid (fun (_ : Nat) => hn)
      have HCP : Hid (n ≤ k2) := hid (by rw [hn]; exact HO4.out.cap)
      clear hwk hfm hn
      obtain ⟨P, hP⟩ : ∃ P, P = w4.heap.size := ⟨_, rfl⟩
      have HPE := hid (fun (_ : Nat) => hP)
      have c0 : w4.cell? ⟨B + 1, 0, none⟩ = some (.int .i64 x0) := HG4.out.cell 0
      have c1 : w4.cell? ⟨B + 1, 1, none⟩ = some (.int .i64 y0) := HG4.out.cell 1
      obtain ⟨V, hV⟩ : ∃ V, V = w4.alloc (.cells #[Value.int .i64 x0, .int .i64 y0] 27) := ⟨_, rfl⟩
      have HVB : Hid (Below P w4 V) := by rw [hV, hP]; exact (Below.refl _ _).alloc (Nat.le_refl _) _
      have HVG : Hid (Blk V P [.int .i64 (((x0, y0) :: l).getD 0 (0, 0)).1, .int .i64 (((x0, y0) :: l).getD 0 (0, 0)).2] 27) := by rw [hV, hP]; exact Blk.new _ _ _
      go_upto_region 8 with fail
      rw [← hV, ← hP]
      clear hV hP c0 c1
      have HMT : Hid (∀ W', Below P w4 W' → W'.cell? ⟨B, 0, none⟩ = some (.int .i64 mW) ∧ W'.cell? ⟨B, 1, none⟩ = some (.int .i64 mH) ∧ W'.cell? ⟨B, 2, none⟩ = some S1 ∧ W'.cell? ⟨B, 3, none⟩ = some S2) := hid fun W' h => by
        have h1 := HM4.out.below h (by rw [HPE.out 0]; exact HM4.out.lt)
        exact ⟨h1.cell 0, h1.cell 1, h1.cell 2, h1.cell 3⟩
      have HGT : Hid (∀ W', Below P w4 W' → W'.cell? ⟨B + 1, 0, none⟩ = some (.int .i64 x0) ∧ W'.cell? ⟨B + 1, 1, none⟩ = some (.int .i64 y0) ∧ W'.cell? ⟨B + 1, 2, none⟩ = some (.int .i64 x1) ∧ W'.cell? ⟨B + 1, 3, none⟩ = some (.int .i64 y1)) := hid fun W' h => by
        have h1 := HG4.out.below h (by rw [HPE.out 0]; exact HG4.out.lt)
        exact ⟨h1.cell 0, h1.cell 1, h1.cell 2, h1.cell 3⟩
      have HOT : Hid (∀ W', Below P w4 W' → CellsAt W' (.slice p2 n k2) l) := hid fun W' h => by
        rw [HN.out 0]
        exact (HO4.out.below (by rw [← HPE.out 0]; exact h)).cells
      have HWT : Hid (∀ W', Below P w4 W' → Below w.heap.size w W') := hid fun W' h => HW4.out.trans (h.mono (by rw [HPE.out 0]; exact HW4.out.size))
      clear HM4 HG4 HO4 HW4
      go_loopw [10] (fun iv wr => ∃ i : Nat, iv = .int .i64 (i : Int) ∧ i ≤ n ∧ Hid (Below P w4 wr) ∧ Hid (Blk wr P [.int .i64 (((x0, y0) :: l).getD i (0, 0)).1, .int .i64 (((x0, y0) :: l).getD i (0, 0)).2] 27)) (fun iv _ => n - (intOf iv).toNat)
      case atStart => exact ⟨0, rfl, by omega, HVB, HVG⟩
      case round =>
        clear HVB HVG
        obtain ⟨i, rfl, hi, HR1, HA1⟩ := hrel
        by_cases hlt : i < n
        · have hl' : (i : Int) < (n : Int) := by omega
          have hi0 : (0 : Int) ≤ (i : Int) := by omega
          have HIT := hid hlt
          have hw1 := HWK.out.next i (by rw [← HN.out 0]; exact hlt)
          have hw2 := HWK.out.ins i (by rw [← HN.out 0]; exact hlt)
          have hw3 := HWK.out.once i (by rw [← HN.out 0]; exact hlt)
          have hw4 : i + 1 < n → _ := fun h => HWK.out.free i (by rw [← HN.out 0]; exact h)
          have hcell := fun W' h => (HOT.out W' h).at (i := i) (by rw [← HN.out 0]; exact hlt)
          have htake := fun W' h => (HOT.out W' h).take (i := i) (by omega) k2
          have hnext : ((x0, y0) :: l).getD (i + 1) (0, 0) = l.getD i (0, 0) := rfl
          have hk2 : (i : Int) ≤ (k2 : Int) := by have := HCP.out; omega
          obtain ⟨sb, so, rfl, -⟩ := hcell _ HR1.out
          obtain ⟨⟨ax, ay⟩, hax⟩ : ∃ z, z = ((x0, y0) :: l).getD i (0, 0) := ⟨_, rfl⟩
          rw [← hax] at hw1 HA1
          obtain ⟨⟨lx, ly⟩, hlx⟩ : ∃ z, z = l.getD i (0, 0) := ⟨_, rfl⟩
          rw [← hlx] at hw1 hw2 hw3 hw4 hcell hnext
          simp only at hw1 hw4 hcell
          obtain ⟨tk, htk⟩ : ∃ tk, tk = l.take i := ⟨_, rfl⟩
          rw [← htk] at hw3 htake
          clear hax hlx htk
          have HC := hid (fun W' h => by
            obtain ⟨sb', so', e, h1, h2⟩ := hcell W' h
            cases e
            exact And.intro h1 h2)
          have HTKE := hid htake
          have HNX := hid hnext
          have HD15 : Hid (∀ W, Calls Try.prog 15 #[.agg #[.int .i64 ax, .int .i64 ay], .agg #[.int .i64 lx, .int .i64 ly]] W fun e w' => e = .returned (.int .i64 1) ∧ Below W.heap.size W w') := hid fun W => by
            have := h15.out ax ay lx ly W
            rw [hw1] at this
            exact this
          have HD16 : Hid (∀ W', Below P w4 W' → Calls Try.prog 16 #[.agg #[.int .i64 mW, .int .i64 mH, S1, S2], .agg #[.int .i64 lx, .int .i64 ly]] W' fun e w' => e = .returned (.bool true) ∧ Below W'.heap.size W' w') := hid fun W' h => by
            have := h16.out lx ly W' (HWT.out _ h)
            rw [HFM.out, hw2] at this
            exact this
          have HD17 : Hid (∀ W', Below P w4 W' → Calls Try.prog 17 #[.slice (some ⟨sb, so, none⟩) i k2, .agg #[.int .i64 lx, .int .i64 ly]] W' fun e w' => e = .returned (.bool false) ∧ Below W'.heap.size W' w') := hid fun W' h => by
            have := h17.out tk _ i k2 lx ly W' (HTKE.out W' h) (by omega)
            rw [hw3] at this
            exact this
          have HF4 := hid hw4
          clear hw1 hw2 hw3 hw4 hcell htake hnext hi
          go_upto_region 10 with fail
          have HPw : Hid (P ≤ wr.heap.size) := hid (by have := HR1.out.size; have := HPE.out 0; omega)
          have HNT : Hid (∀ z : Nx wr, Below P w4 z.w) := hid fun z => HR1.out.trans (z.h.mono HPw.out)
          have a0 : ∀ z : Nx wr, z.w.cell? ⟨P, 0, none⟩ = some (.int .i64 ax) := fun z => (HA1.out.below z.h HA1.out.lt).cell 0
          have a1 : ∀ z : Nx wr, z.w.cell? ⟨P, 1, none⟩ = some (.int .i64 ay) := fun z => (HA1.out.below z.h HA1.out.lt).cell 1
          have l0 : ∀ z : Nx wr, z.w.cell? ⟨sb, so + i * 2, none⟩ = some (.int .i64 lx) := fun z => (HC.out z.w (HNT.out z)).1
          have l1 : ∀ z : Nx wr, z.w.cell? ⟨sb, so + i * 2 + 1, none⟩ = some (.int .i64 ly) := fun z => (HC.out z.w (HNT.out z)).2
          have m0 : ∀ z : Nx wr, z.w.cell? ⟨B, 0, none⟩ = some (.int .i64 mW) := fun z => (HMT.out z.w (HNT.out z)).1
          have m1 : ∀ z : Nx wr, z.w.cell? ⟨B, 1, none⟩ = some (.int .i64 mH) := fun z => (HMT.out z.w (HNT.out z)).2.1
          have m2 : ∀ z : Nx wr, z.w.cell? ⟨B, 2, none⟩ = some S1 := fun z => (HMT.out z.w (HNT.out z)).2.2.1
          have m3 : ∀ z : Nx wr, z.w.cell? ⟨B, 3, none⟩ = some S2 := fun z => (HMT.out z.w (HNT.out z)).2.2.2
          refine wp_region_calm (S := fun w' => ∃ z : Nx wr, w' = z.w) [(0, false), (1, false), (2, false), (3, false), (4, false), (5, true), (6, false), (7, false), (8, false), (9, false), (10, false), (11, false), (12, false), (13, true), (14, false), (15, false), (16, false), (17, false), (18, false), (19, false), (20, false), (21, false), (22, false), (23, false), (24, true), (25, false)] (by kernel_rfl) (by kernel_rfl) rfl (by kernel_rfl) ⟨⟨wr.drew, below_drew (Below.refl _ _)⟩, rfl⟩ ?_
          repeat (refine plan_take rfl (fun K hK => ?_); go_simp; refine ⟨_, fun _ => rfl, hK _ ?_⟩; clear hK K)
          refine plan_turn rfl (fun K hK => ?_)
          go_simp
          refine Calls.mono (HD15.out _) ?_
          rintro e w6 ⟨rfl, hb6⟩
          have hn6 : Below wr.heap.size wr w6 := ⟨hb6.os, hb6.tape, hb6.output, hb6.size, hb6.block⟩
          refine hK _ _ ⟨⟨w6, hn6⟩, rfl⟩ ?_
          clear hK K
          repeat (refine plan_take rfl (fun K hK => ?_); go_simp; refine ⟨_, fun _ => rfl, hK _ ?_⟩; clear hK K)
          refine plan_turn rfl (fun K hK => ?_)
          go_simp
          refine Calls.mono (HD16.out _ (HNT.out ⟨w6, hn6⟩)) ?_
          rintro e w7 ⟨rfl, hb7⟩
          have hn7 : Below wr.heap.size wr w7 := hn6.trans (hb7.mono hn6.size)
          refine hK _ _ ⟨⟨w7, hn7⟩, rfl⟩ ?_
          clear hK K
          repeat (refine plan_take rfl (fun K hK => ?_); go_simp; refine ⟨_, fun _ => rfl, hK _ ?_⟩; clear hK K)
          refine plan_turn rfl (fun K hK => ?_)
          go_simp
          refine Calls.mono (HD17.out _ (HNT.out ⟨w7, hn7⟩)) ?_
          rintro e w8 ⟨rfl, hb8⟩
          have hn8 : Below wr.heap.size wr w8 := hn7.trans (hb8.mono hn7.size)
          refine hK _ _ ⟨⟨w8, hn8⟩, rfl⟩ ?_
          clear hK K
          repeat (refine plan_take rfl (fun K hK => ?_); go_simp; refine ⟨_, fun _ => rfl, hK _ ?_⟩; clear hK K)
          refine plan_done ⟨rfl, ?_⟩
          have HR8 : Hid (Below P w4 w8) := hid (HNT.out ⟨w8, hn8⟩)
          have HA8 : Hid (Blk w8 P [.int .i64 ax, .int .i64 ay] 27) := hid (HA1.out.below hn8 HA1.out.lt)
          clear hn6 hn7 hn8 hb6 hb7 hb8 a0 a1 l0 l1 m0 m1 m2 m3 HNT HPw HR1 HA1 HTKE HD15 HD16 HD17
          have HPw : Hid (P ≤ w8.heap.size) := hid (by have := HR8.out.size; have := HPE.out 0; omega)
          have HNT : Hid (∀ z : Nx w8, Below P w4 z.w) := hid fun z => HR8.out.trans (z.h.mono HPw.out)
          by_cases hlast : i + 1 < n
          · obtain ⟨f1, f2, f3⟩ := HF4.out hlast
            have HD18 : Hid (∀ W', Below P w4 W' → Calls Try.prog 18 #[.agg #[.int .i64 mW, .int .i64 mH, S1, S2], .agg #[.int .i64 lx, .int .i64 ly]] W' fun e w' => e = .returned (.bool true) ∧ Below W'.heap.size W' w') := hid fun W' h => by
              have := h18.out lx ly W' (HWT.out _ h)
              rw [f1] at this
              exact this
            have HD17 : Hid (∀ W', Below P w4 W' → Calls Try.prog 17 #[S3, .agg #[.int .i64 lx, .int .i64 ly]] W' fun e w' => e = .returned (.bool false) ∧ Below W'.heap.size W' w') := hid fun W' h => by
              have h1 := HBL.out W' (HWT.out _ h)
              rw [HS3.out 0] at h1 ⊢
              have := h17.out bl _ N cap lx ly W' h1 (by have := HN3.out; omega)
              rw [f2] at this
              exact this
            have hsm : sameC lx ly x0 y0 = false := decide_eq_false f3
            have hlc : decide ((i : Int) < (n : Int) - 1) = true := by simp; omega
            have hwn : IntKind.i64.wrap ((n : Int) - 1) = (n : Int) - 1 := by rw [IntKind.wrap_i64]; omega
            have l0 : ∀ z : Nx w8, z.w.cell? ⟨sb, so + i * 2, none⟩ = some (.int .i64 lx) := fun z => (HC.out z.w (HNT.out z)).1
            have l1 : ∀ z : Nx w8, z.w.cell? ⟨sb, so + i * 2 + 1, none⟩ = some (.int .i64 ly) := fun z => (HC.out z.w (HNT.out z)).2
            have m0 : ∀ z : Nx w8, z.w.cell? ⟨B, 0, none⟩ = some (.int .i64 mW) := fun z => (HMT.out z.w (HNT.out z)).1
            have m1 : ∀ z : Nx w8, z.w.cell? ⟨B, 1, none⟩ = some (.int .i64 mH) := fun z => (HMT.out z.w (HNT.out z)).2.1
            have m2 : ∀ z : Nx w8, z.w.cell? ⟨B, 2, none⟩ = some S1 := fun z => (HMT.out z.w (HNT.out z)).2.2.1
            have m3 : ∀ z : Nx w8, z.w.cell? ⟨B, 3, none⟩ = some S2 := fun z => (HMT.out z.w (HNT.out z)).2.2.2
            have e0 : ∀ z : Nx w8, z.w.cell? ⟨B + 1, 0, none⟩ = some (.int .i64 x0) := fun z => (HGT.out z.w (HNT.out z)).1
            have e1 : ∀ z : Nx w8, z.w.cell? ⟨B + 1, 1, none⟩ = some (.int .i64 y0) := fun z => (HGT.out z.w (HNT.out z)).2.1
            clear f1 f2 f3 hlast
            go_upto_region 12 with fail
            refine wp_region_calm (S := fun w' => ∃ z : Nx w8, w' = z.w) [(0, false), (1, false), (2, false), (3, false), (4, false), (5, false), (6, false), (7, false), (8, false), (9, false), (10, false), (11, true), (12, false), (13, false), (14, false), (15, false), (16, false), (17, false), (18, false), (19, true), (20, false), (21, false), (22, false), (23, false), (24, false), (25, false), (26, false), (27, false), (28, false), (29, false), (30, false)] (by kernel_rfl) (by kernel_rfl) rfl (by kernel_rfl) ⟨⟨w8.drew, below_drew (Below.refl _ _)⟩, rfl⟩ ?_
            repeat (refine plan_take rfl (fun K hK => ?_); go_simp; refine ⟨_, fun _ => rfl, hK _ ?_⟩; clear hK K)
            refine plan_turn rfl (fun K hK => ?_)
            go_simp
            refine Calls.mono (HD18.out _ (HNT.out ⟨_, below_drew (Below.refl _ _)⟩)) ?_
            rintro e w6 ⟨rfl, hb6⟩
            have hn6 : Below w8.heap.size w8 w6 := ⟨hb6.os, hb6.tape, hb6.output, hb6.size, hb6.block⟩
            refine hK _ _ ⟨⟨w6, hn6⟩, rfl⟩ ?_
            clear hK K
            repeat (refine plan_take rfl (fun K hK => ?_); go_simp; refine ⟨_, fun _ => rfl, hK _ ?_⟩; clear hK K)
            refine plan_turn rfl (fun K hK => ?_)
            go_simp
            refine Calls.mono (HD17.out _ (HNT.out ⟨w6, hn6⟩)) ?_
            rintro e w7 ⟨rfl, hb7⟩
            have hn7 : Below w8.heap.size w8 w7 := hn6.trans (hb7.mono hn6.size)
            refine hK _ _ ⟨⟨w7, hn7⟩, rfl⟩ ?_
            clear hK K
            repeat (refine plan_take rfl (fun K hK => ?_); go_simp; refine ⟨_, fun _ => rfl, hK _ ?_⟩; clear hK K)
            refine plan_done ⟨rfl, ?_⟩
            have HR9 : Hid (Below P w4 w7) := hid (HNT.out ⟨w7, hn7⟩)
            have HA9 : Hid (Blk w7 P [.int .i64 ax, .int .i64 ay] 27) := hid (HA8.out.below hn7 HA8.out.lt)
            clear hn6 hn7 hb6 hb7 l0 l1 m0 m1 m2 m3 e0 e1 HNT HPw HR8 HA8 hlc hwn hsm
            have g0 : w7.cell? ⟨P, 0, none⟩ = some (.int .i64 ax) := HA9.out.cell 0
            have g1 : w7.cell? ⟨P, 1, none⟩ = some (.int .i64 ay) := HA9.out.cell 1
            have z0 := HA9.out.frozen 0
            have z1 := HA9.out.frozen 1
            obtain ⟨q0, q1'⟩ := HC.out w7 HR9.out
            have hT := turn_two w7 P (.int .i64 lx) (.int .i64 ly)
            obtain ⟨V9, hV9⟩ : ∃ V9, V9 = (w7.setCell ⟨P, 0, none⟩ (.int .i64 lx)).setCell ⟨P, 1, none⟩ (.int .i64 ly) := ⟨_, rfl⟩
            have HAV : Hid (Blk V9 P [.int .i64 lx, .int .i64 ly] 27) := by rw [hV9]; exact (HA9.out.set 0 _).set 1 _
            rw [← hV9] at hT
            have HRV : Hid (Below P w4 V9) := HR9.out.trans (hT.below (Nat.le_refl _))
            have HV9 := hid (fun (_ : Nat) => hV9)
            have HAV' : Hid (Blk V9 P [.int .i64 (((x0, y0) :: l).getD (i + 1) (0, 0)).1, .int .i64 (((x0, y0) :: l).getD (i + 1) (0, 0)).2] 27) := by rw [HNX.out]; exact HAV
            clear hT hV9 HA9 HR9 HAV
            go_wp2
            rw [← HV9.out 0]
            go_roundw
            case rel => exact ⟨i + 1, by simp, HIT.out, HRV, HAV'⟩
            case measure =>
              have := HIT.out
              simp [intOf]; omega
          · have hlc : ((i : Int) < (n : Int) - 1) = False := by simp; omega
            have hwn : IntKind.i64.wrap ((n : Int) - 1) = (n : Int) - 1 := by rw [IntKind.wrap_i64]; omega
            clear hlast HF4
            go_upto_region 12 with fail
            refine wp_region_calm (S := fun w' => ∃ z : Nx w8, w' = z.w) [(0, false), (1, false), (2, false), (3, false), (4, false), (5, false), (6, false), (7, false), (8, false), (9, false), (10, false), (11, true), (12, false), (13, false), (14, false), (15, false), (16, false), (17, false), (18, false), (19, true), (20, false), (21, false), (22, false), (23, false), (24, false), (25, false), (26, false), (27, false), (28, false), (29, false), (30, false)] (by kernel_rfl) (by kernel_rfl) rfl (by kernel_rfl) ⟨⟨w8.drew, below_drew (Below.refl _ _)⟩, rfl⟩ ?_
            have hd9 : Below w8.heap.size w8 w8.drew := below_drew (Below.refl _ _)
            repeat (refine plan_take rfl (fun K hK => ?_); go_simp; (first | (refine ⟨_, fun _ => rfl, hK _ ?_⟩) | (refine hK _ ?_)); clear hK K)
            refine plan_turn rfl (fun K hK => ?_)
            go_simp
            refine hK _ _ ⟨⟨w8.drew, hd9⟩, rfl⟩ ?_
            clear hK K
            repeat (refine plan_take rfl (fun K hK => ?_); go_simp; (first | (refine ⟨_, fun _ => rfl, hK _ ?_⟩) | (refine hK _ ?_)); clear hK K)
            refine plan_turn rfl (fun K hK => ?_)
            go_simp
            refine hK _ _ ⟨⟨w8.drew, hd9⟩, rfl⟩ ?_
            clear hK K
            repeat (refine plan_take rfl (fun K hK => ?_); go_simp; (first | (refine ⟨_, fun _ => rfl, hK _ ?_⟩) | (refine hK _ ?_)); clear hK K)
            refine plan_done ⟨rfl, ?_⟩
            obtain ⟨w9, hw9⟩ : ∃ w9, w9 = w8.drew := ⟨_, rfl⟩
            rw [← hw9]
            rw [← hw9] at hd9
            clear hw9
            have HR9 : Hid (Below P w4 w9) := hid (HNT.out ⟨w9, hd9⟩)
            have HA9 : Hid (Blk w9 P [.int .i64 ax, .int .i64 ay] 27) := hid (HA8.out.below hd9 HA8.out.lt)
            clear hd9 HNT HPw HR8 HA8 hlc hwn
            have g0 : w9.cell? ⟨P, 0, none⟩ = some (.int .i64 ax) := HA9.out.cell 0
            have g1 : w9.cell? ⟨P, 1, none⟩ = some (.int .i64 ay) := HA9.out.cell 1
            have z0 := HA9.out.frozen 0
            have z1 := HA9.out.frozen 1
            obtain ⟨q0, q1'⟩ := HC.out w9 HR9.out
            have hT := turn_two w9 P (.int .i64 lx) (.int .i64 ly)
            obtain ⟨V9, hV9⟩ : ∃ V9, V9 = (w9.setCell ⟨P, 0, none⟩ (.int .i64 lx)).setCell ⟨P, 1, none⟩ (.int .i64 ly) := ⟨_, rfl⟩
            have HAV : Hid (Blk V9 P [.int .i64 lx, .int .i64 ly] 27) := by rw [hV9]; exact (HA9.out.set 0 _).set 1 _
            rw [← hV9] at hT
            have HRV : Hid (Below P w4 V9) := HR9.out.trans (hT.below (Nat.le_refl _))
            have HV9 := hid (fun (_ : Nat) => hV9)
            have HAV' : Hid (Blk V9 P [.int .i64 (((x0, y0) :: l).getD (i + 1) (0, 0)).1, .int .i64 (((x0, y0) :: l).getD (i + 1) (0, 0)).2] 27) := by rw [HNX.out]; exact HAV
            clear hT hV9 HA9 HR9 HAV
            go_wp2
            rw [← HV9.out 0]
            go_roundw
            case rel => exact ⟨i + 1, by simp, HIT.out, HRV, HAV'⟩
            case measure =>
              have := HIT.out
              simp [intOf]; omega
        · obtain rfl : i = n := by omega
          have hl' : ((i : Int) < (i : Int)) = False := by simp
          have hlast := HWK.out.last
          rw [← HN.out 0] at hlast
          rw [hlast] at HA1
          have hfar := HWK.out.far
          rw [← HN.out 0] at hfar
          have hsm : sameC x1 y1 x1 y1 = true := decide_eq_true rfl
          have g0 : wr.cell? ⟨P, 0, none⟩ = some (.int .i64 x1) := HA1.out.cell 0
          have g1 : wr.cell? ⟨P, 1, none⟩ = some (.int .i64 y1) := HA1.out.cell 1
          obtain ⟨c0, c1, c2, c3⟩ := HGT.out wr HR1.out
          obtain ⟨D, hD⟩ : ∃ D, D = dist x0 y0 x1 y1 := ⟨_, rfl⟩
          have h15' := hid (h15.out x0 y0 x1 y1)
          rw [← hD] at h15'
          simp only at hfar
          rw [← hD] at hfar
          have HE := hid (fun w' (h : Below wr.heap.size wr w') => (HWT.out wr HR1.out).trans (h.mono (HWT.out wr HR1.out).size))
          clear hlast hD hi hlt
          go_wp2_with fail
          refine Calls.mono (h15'.out wr) ?_
          rintro e w6 ⟨rfl, hb6⟩
          have HB6 := hid (HE.out w6 hb6)
          clear hb6
          go_wp2
          go_ret
          exact ⟨rfl, HB6.out⟩
end Go.Proofs.Ytemcbonmlmobkaa
