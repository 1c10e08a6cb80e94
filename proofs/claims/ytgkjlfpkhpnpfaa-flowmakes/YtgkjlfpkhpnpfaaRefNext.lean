/- The reference: Next. -/
import Derived.Test.YtgkjlfpkhpnpfaaMade
import Derived.Test.YtgkjlfpkhpnpfaaRefMay
import Derived.Test.YtgkjlfpkhpnpfaaRefNo
import Derived.Test.YtgkjlfpkhpnpfaaLead
import Derived.Test.YtgkjlfpkhpnpfaaNext
namespace Go.Proofs.Ytgkjlfpkhpnpfaa
open Go.RowKit
/-- The number of an inside cell, in the row. -/
theorem row_at {m : Mp} (hf : formed m = true) {T : Nat} (hT : m.W * m.H = (T : Int)) (f : Cl → Option Nat) {c : Cl} (hc : inn m c = true) : (rowV m f T).getD (idx m c) 0 = farV f c := by
  rw [rowV_get m f (idx_lt hf hT hc).1]
  have := cell_idx hf hc
  unfold cellOf at this
  rw [this]
/-- The next cell, of what the numbers say. -/
def hitN (m : Mp) (bl gs : List Cl) (f : Cl → Option Nat) (v : Int) (n : Cl) : Bool := (farV f n == v - 1) && opn m bl gs n
theorem next_hit {m : Mp} {bl gs : List Cl} {f : Cl → Option Nat} {c : Cl} (h : 0 < farV f c) : nextV m bl gs f c = (nr m c).find? (hitN m bl gs f (farV f c)) := by
  unfold nextV
  unfold farV at h ⊢
  cases hn : f c with
  | none => rw [hn] at h; simp only [numV] at h; omega
  | some n =>
    rw [hn] at h
    simp only [numV] at h ⊢
    obtain ⟨d, rfl⟩ : ∃ d, n = d + 1 := ⟨n - 1, by omega⟩
    show (nr m c).find? (fun n => f n == some d && opn m bl gs n) = _
    congr 1
    funext x
    unfold hitN farV
    congr 1
    cases f x with
    | none =>
      simp only [numV]
      rw [Bool.eq_iff_iff]
      simp
    | some e =>
      simp only [numV]
      rw [Bool.eq_iff_iff]
      simp
      omega
theorem next_none {m : Mp} {bl gs : List Cl} {f : Cl → Option Nat} {c : Cl} (h : farV f c ≤ 0) : nextV m bl gs f c = none := nextV_zero h
set_option maxRecDepth 4000 in
set_option maxHeartbeats 16000000 in
theorem refNext_any (m : Mp) (v : Value) (bl gs : List Cl) (p1 p2 : Option Addr) (N1 c1 N2 c2 T g : Nat) (f : Cl → Option Nat) (x y : Int) (w : World) (hm : MapAt w v m) (hbl : CellsAt w (.slice p1 N1 c1) bl) (hgs : CellsAt w (.slice p2 N2 c2) gs) (hf : formed m = true) (h1 : N1 ≤ 1000) (h2 : N2 ≤ 1000)
    (hT : m.W * m.H = (T : Int)) (hF : Field m bl gs f) (hd : IB w g (rowV m f T)) (hin : inn m (x, y) = true) :
    Calls Try.prog 15 #[v, .slice p1 N1 c1, .slice p2 N2 c2, .slice (some ⟨g, 0, none⟩) T T, C x y] w fun e w' => Out w (.tuple #[C ((nextV m bl gs f (x, y)).getD (0, 0)).1 ((nextV m bl gs f (x, y)).getD (0, 0)).2, .bool (nextV m bl gs f (x, y)).isSome]) e w' := by
  obtain ⟨f1, f2, -⟩ := formed_of hf
  have hp := prod_bound f1 f2
  have hT4 : T ≤ 400 := by omega
  have hpi := holds_of hin
  have h21 : Hid (∀ W, Below w.heap.size w W → Calls Try.prog 21 #[v, C x y] W fun e w' => Out W (.bool true) e w') := fun W h => by
    have := refInside_any m v x y W (hm.below h)
    have e : (formed m && holds m x y) = true := by rw [hf]; exact hin
    rw [e] at this
    exact this
  have h30 : Hid (∀ W, Below w.heap.size w W → Calls Try.prog 30 #[v, C x y] W fun e w' => OutOwn W (nr m (x, y)) e w') := fun W h => refNear_own m v x y W (by omega) (by omega) (hm.below h)
  have h29 : Hid (∀ x y W, Below w.heap.size w W → Calls Try.prog 29 #[v, .slice p1 N1 c1, .slice p2 N2 c2, C x y] W fun e w' => Out W (.bool (opn m bl gs (x, y))) e w') := fun x y W h => refMay_any m v bl gs p1 p2 N1 c1 N2 c2 x y W (hm.below h) (hbl.below h) (hgs.below h) hf h1 h2
  have HID : Hid (∀ W, Below w.heap.size w W → IB W g (rowV m f T)) := fun W h => Blk.below hd h (Blk.lt hd)
  have HRL : Hid ((rowV m f T).length = T) := hid (rowV_length m f T)
  have HIX : Hid (∀ c, inn m c = true → idx m c < T ∧ c.2 * m.W + c.1 = (idx m c : Int) ∧ 0 ≤ c.2 * m.W ∧ c.2 * m.W ≤ 400 ∧ (rowV m f T).getD (idx m c) 0 = farV f c) := fun c hc => by
    have hq := place_lt f1 f2 (holds_of hc)
    have := idx_lt hf hT hc
    exact ⟨this.1, this.2, hq.1, hq.2.1, row_at hf hT f hc⟩
  have HFB : Hid (∀ c, -1 ≤ farV f c ∧ farV f c ≤ 400) := hid fun c => farV_bound hF c
  have HNI : Hid (∀ z, z ∈ nr m (x, y) → inn m z = true) := hid fun z h => nr_in hf h
  have HNL : Hid ((nr m (x, y)).length ≤ 4) := by
    unfold nr near
    rw [if_pos hf]
    exact hid (Nat.le_trans (List.length_filter_le _ _) (by simp [nbs]))
  have HNH : Hid (0 < farV f (x, y) → nextV m bl gs f (x, y) = (nr m (x, y)).find? (hitN m bl gs f (farV f (x, y)))) := hid fun h => next_hit h
  have HNN : Hid (farV f (x, y) ≤ 0 → nextV m bl gs f (x, y) = none) := hid fun h => next_none h
  have HHT : Hid (∀ v n, hitN m bl gs f v n = ((farV f n == v - 1) && opn m bl gs n)) := hid fun v n => rfl
  obtain ⟨j1, j2, j3, j4, j5⟩ := HIX.out (x, y) hin
  simp only at j2 j3 j4
  obtain ⟨NV, hNV⟩ : ∃ NV, NV = nextV m bl gs f (x, y) := ⟨_, rfl⟩
  rw [← hNV] at HNH HNN ⊢
  obtain ⟨HT, hHT⟩ : ∃ HT, HT = hitN m bl gs f := ⟨_, rfl⟩
  rw [← hHT] at HNH HHT
  clear hNV hHT hp hpi hf hF hd hin hbl hgs h1 h2 hT f1 f2
  obtain ⟨q1, d1, q2, d2, rfl, -, -⟩ := hm
  obtain ⟨S1, hS1⟩ : ∃ z, z = Value.slice q1 m.ts.length d1 := ⟨_, rfl⟩
  obtain ⟨S2, hS2⟩ : ∃ z, z = Value.slice q2 m.os.length d2 := ⟨_, rfl⟩
  obtain ⟨S3, hS3⟩ : ∃ z, z = Value.slice p1 N1 c1 := ⟨_, rfl⟩
  obtain ⟨S4, hS4⟩ : ∃ z, z = Value.slice p2 N2 c2 := ⟨_, rfl⟩
  obtain ⟨mW, hmW⟩ : ∃ z, z = m.W := ⟨_, rfl⟩
  obtain ⟨mH, hmH⟩ : ∃ z, z = m.H := ⟨_, rfl⟩
  rw [← hS1, ← hS2, ← hmW, ← hmH] at h21 h29 h30
  rw [← hmW] at HIX j2 j3 j4
  rw [← hmW, ← hmH, ← hS1, ← hS2, ← hS3, ← hS4]
  rw [← hS3, ← hS4] at h29
  clear hS1 hS2 hS3 hS4 hmW hmH
  obtain ⟨vx, hvx⟩ : ∃ vx, vx = farV f (x, y) := ⟨_, rfl⟩
  have hvb := HFB.out (x, y)
  rw [← hvx] at HNH HNN j5 hvb
  clear hvx
  generalize idx m (x, y) = j at *
  unfold C Out at *
  go_enter Try.func15, Try.ntmps15
  go_upto_region 1 with fail
  obtain ⟨W0, hW0⟩ : ∃ W0, W0 = (w.alloc (.cells #[Value.int .i64 mW, .int .i64 mH, S1, S2] 24)).alloc (.cells #[Value.int .i64 x, .int .i64 y] 37) := ⟨_, rfl⟩
  obtain ⟨W, hW⟩ : ∃ W, W = W0.alloc (.cells #[Value.int .i64 0, .int .i64 0] 37) := ⟨_, rfl⟩
  obtain ⟨B, hB⟩ : ∃ B, B = w.heap.size := ⟨_, rfl⟩
  have hz0 : W0.heap.size = B + 2 := by rw [hW0, hB]; simp
  have hzW : W.heap.size = B + 3 := by rw [hW]; simp [hz0]
  have hbk : Blk W B [Value.int .i64 mW, .int .i64 mH, S1, S2] 24 := by rw [hW, hW0, hB]; exact ((Blk.new _ _ _).alloc _).alloc _
  have hbk2 : Blk W (B + 1) [Value.int .i64 x, .int .i64 y] 37 := by rw [hW, hW0]; exact (Blk.new' _ _ _ _ (by simp [hB])).alloc _
  have HR : Hid (Blk W (B + 2) [.int .i64 0, .int .i64 0] 37) := by rw [hW]; exact Blk.new' _ _ _ _ hz0.symm
  have hbw : Below w.heap.size w W := by rw [hW, hW0]; exact (((Below.refl _ _).alloc (Nat.le_refl _) _).alloc (by simp) _).alloc (by simp; omega) _
  rw [← hW0, ← hW, ← hB]
  have HBE : Hid (∀ w', Below (B + 2) W w' → Below w.heap.size w w') := hid fun w' h => hbw.trans (h.mono (by omega))
  have HK : Hid (∀ w', Below (B + 2) W w' → w'.cell? ⟨B, 0, none⟩ = some (.int .i64 mW) ∧ w'.cell? ⟨B, 1, none⟩ = some (.int .i64 mH) ∧ w'.cell? ⟨B, 2, none⟩ = some S1 ∧ w'.cell? ⟨B, 3, none⟩ = some S2 ∧ w'.cell? ⟨B + 1, 0, none⟩ = some (.int .i64 x) ∧ w'.cell? ⟨B + 1, 1, none⟩ = some (.int .i64 y)) := fun w' h => by
    have k1 := hbk.below h (by omega)
    have k2 := hbk2.below h (by omega)
    exact ⟨k1.cell 0, k1.cell 1, k1.cell 2, k1.cell 3, k2.cell 0, k2.cell 1⟩
  have HB0 := hid (Below.refl (B + 2) W)
  have HGT : Hid (∀ w', Below (B + 2) W w' → ∀ k, k < T → w'.cell? ⟨g, k, none⟩ = some (.int .i64 ((rowV m f T).getD k 0))) := hid fun w' h k hk => (HID.out w' (HBE.out w' h)).cell (by rw [HRL.out]; exact hk)
  obtain ⟨a0, a1, a2, a3, a4, a5⟩ := HK.out W HB0.out
  clear hW hW0 hB hz0 hbk hbk2 hbw
  have hwm : IntKind.i64.wrap (y * mW) = y * mW := by rw [IntKind.wrap_i64]; omega
  have hwa : IntKind.i64.wrap (y * mW + x) = (j : Int) := by rw [j2, IntKind.wrap_i64]; omega
  have hwm' : wrap64 (y * mW) = y * mW := by unfold wrap64; omega
  have hwa' : wrap64 (y * mW + x) = (j : Int) := by rw [j2]; unfold wrap64; omega
  have hj0 : (0 : Int) ≤ (j : Int) := by omega
  have hjT : (j : Int) < (T : Int) := by omega
  clear j2 j3 j4
  go_wp2_with fail
  refine Calls.mono (h21.out W (HBE.out _ HB0.out)) ?_
  rintro e w1 ⟨rfl, hb1⟩
  rw [hzW] at hb1
  have HB1 : Hid (Below (B + 2) W w1) := hid (hb1.mono (by omega))
  have HR1 : Hid (Blk w1 (B + 2) [.int .i64 0, .int .i64 0] 37) := hid (HR.out.below hb1 (by omega))
  clear hb1 a0 a1 a2 a3 a4 a5 HB0 HR
  obtain ⟨a0, a1, a2, a3, a4, a5⟩ := HK.out w1 HB1.out
  have cj := HGT.out w1 HB1.out j j1
  rw [j5] at cj
  by_cases hv : vx ≤ 0
  · have hr := HNN.out hv
    subst hr
    have r0 : w1.cell? ⟨B + 2, 0, none⟩ = some (.int .i64 0) := HR1.out.cell 0
    have r1 : w1.cell? ⟨B + 2, 1, none⟩ = some (.int .i64 0) := HR1.out.cell 1
    have z0 := HR1.out.frozen 0
    have z1 := HR1.out.frozen 1
    go_wp2
    have hT := turn_two w1 (B + 2) (.int .i64 0) (.int .i64 0)
    have k1 : Blk ((w1.setCell ⟨B + 2, 0, none⟩ (.int .i64 0)).setCell ⟨B + 2, 1, none⟩ (.int .i64 0)) (B + 2) [(.int .i64 0), (.int .i64 0)] 37 := (HR1.out.set 0 _).set 1 _
    exact bodyPost_ret (results_cell_tmp Try.results15 rfl rfl k1 Try.underlying37 rfl size37) rfl ⟨rfl, HBE.out _ (HB1.out.trans (hT.below (by omega)))⟩
  · have hv' : (vx ≤ 0) = False := by simp; omega
    have HNH' := hid (HNH.out (by omega))
    clear HNH HNN hv
    go_upto_region 3 with fail
    go_wp2_with fail
    refine Calls.mono (h30.out w1 (HBE.out _ HB1.out)) ?_
    rintro e w2 ⟨vn, rfl, hon, hb2⟩
    obtain ⟨pn, capn, rfl⟩ := hon.form
    obtain ⟨l, hle⟩ : ∃ l, l = nr m (x, y) := ⟨_, rfl⟩
    rw [← hle] at hon HNL HNI HNH' ⊢
    clear hle
    have HON := hid hon
    have HB2 : Hid (Below (B + 2) W w2) := hid (HB1.out.trans (hb2.mono (by have := HR1.out.lt; omega)))
    have HR2 : Hid (Blk w2 (B + 2) [.int .i64 0, .int .i64 0] 37) := hid (HR1.out.below hb2 HR1.out.lt)
    have HLI : Hid (∀ k, k < l.length → inn m (l.getD k (0, 0)) = true) := hid fun k hk => HNI.out _ (by
      rw [List.getD_eq_getElem?_getD, List.getElem?_eq_getElem hk, Option.getD_some]
      exact List.getElem_mem hk)
    have HI0 : Hid (∀ i, i < 0 → HT vx (l.getD i (0, 0)) = false) := hid fun i hi => by omega
    have HRf := hid (Below.refl w2.heap.size w2)
    clear hon hb2 a0 a1 a2 a3 a4 a5 cj HB1 HR1
    go_upto_region 5 with fail
    go_loopw [13] (fun iv wr => ∃ k : Nat, iv = .int .i64 (k : Int) ∧ k ≤ l.length ∧ Hid (∀ i, i < k → HT vx (l.getD i (0, 0)) = false) ∧ Hid (Below w2.heap.size w2 wr)) (fun iv _ => 5 - (intOf iv).toNat)
    case atStart => exact ⟨0, rfl, by omega, HI0, HRf⟩
    case round =>
      clear HI0 HRf
      obtain ⟨k, rfl, hkl, HIk, HRk⟩ := hrel
      have HBk : Hid (Below (B + 2) W wr) := hid (HB2.out.trans (HRk.out.mono (by have := HR2.out.lt; omega)))
      have HRR : Hid (Blk wr (B + 2) [.int .i64 0, .int .i64 0] 37) := hid (HR2.out.below HRk.out HR2.out.lt)
      by_cases hl : k < l.length
      · have hl' : (k : Int) < (l.length : Int) := by omega
        have hk0 : (0 : Int) ≤ (k : Int) := by omega
        have HKL := hid hl
        have HWK : Hid (wrap64 ((k : Int) + 1) = (k : Int) + 1) := hid (by have := HNL.out; unfold wrap64; omega)
        have hinn := HLI.out k hl
        obtain ⟨sb, so, rfl, -, -⟩ := (HON.out.below HRk.out).cells.at hl
        have hcell := fun W' (h : Below w2.heap.size w2 W') => (HON.out.below h).cells.at hl
        have HFA : Hid (HT vx (l.getD k (0, 0)) = true → l.find? (HT vx) = some (l.getD k (0, 0))) := hid fun h => find_hit hl HIk.out h
        have HIn : Hid (HT vx (l.getD k (0, 0)) = false → ∀ i, i < k + 1 → HT vx (l.getD i (0, 0)) = false) := hid fun h i hi => by
          rcases Nat.lt_or_ge i k with h1 | h1
          · exact HIk.out i h1
          · obtain rfl : i = k := by omega
            exact h
        generalize l.getD k (0, 0) = nn at *
        obtain ⟨nx, ny⟩ := nn
        simp only at hcell
        have HC := hid (fun W' h => by
          obtain ⟨sb', so', e, h1, h2⟩ := hcell W' h
          cases e
          exact And.intro h1 h2)
        obtain ⟨i1, i2, i3, i4, i5⟩ := HIX.out (nx, ny) hinn
        simp only at i2 i3 i4
        have HTZ := HHT.out vx (nx, ny)
        have hfb := HFB.out (nx, ny)
        generalize idx m (nx, ny) = jn at *
        generalize farV f (nx, ny) = fn at *
        obtain ⟨ov, hov⟩ : ∃ ov, ov = opn m bl gs (nx, ny) := ⟨_, rfl⟩
        have hmay := fun W' h => h29.out nx ny W' h
        rw [← hov] at HTZ hmay
        have HMY := hid hmay
        have hvm : IntKind.i64.wrap (ny * mW) = ny * mW := by rw [IntKind.wrap_i64]; omega
        have hva : IntKind.i64.wrap (ny * mW + nx) = (jn : Int) := by rw [i2, IntKind.wrap_i64]; omega
        have hvd : IntKind.i64.wrap (vx - 1) = vx - 1 := by rw [IntKind.wrap_i64]; omega
        have hn0 : (0 : Int) ≤ (jn : Int) := by omega
        have hnT : (jn : Int) < (T : Int) := by omega
        have HPW : Hid (w2.heap.size ≤ wr.heap.size) := hid HRk.out.size
        have HNT : Hid (∀ z : Nx wr, Below w2.heap.size w2 z.w) := hid fun z => HRk.out.trans (z.h.mono HPW.out)
        have HNB : Hid (∀ z : Nx wr, Below (B + 2) W z.w) := hid fun z => HBk.out.trans (z.h.mono (by have := HRR.out.lt; omega))
        have m0 : ∀ z : Nx wr, z.w.cell? ⟨B, 0, none⟩ = some (.int .i64 mW) := fun z => (HK.out z.w (HNB.out z)).1
        have m1 : ∀ z : Nx wr, z.w.cell? ⟨B, 1, none⟩ = some (.int .i64 mH) := fun z => (HK.out z.w (HNB.out z)).2.1
        have m2 : ∀ z : Nx wr, z.w.cell? ⟨B, 2, none⟩ = some S1 := fun z => (HK.out z.w (HNB.out z)).2.2.1
        have m3 : ∀ z : Nx wr, z.w.cell? ⟨B, 3, none⟩ = some S2 := fun z => (HK.out z.w (HNB.out z)).2.2.2.1
        have m4 : ∀ z : Nx wr, z.w.cell? ⟨B + 1, 0, none⟩ = some (.int .i64 x) := fun z => (HK.out z.w (HNB.out z)).2.2.2.2.1
        have m5 : ∀ z : Nx wr, z.w.cell? ⟨B + 1, 1, none⟩ = some (.int .i64 y) := fun z => (HK.out z.w (HNB.out z)).2.2.2.2.2
        have l0 : ∀ z : Nx wr, z.w.cell? ⟨sb, so + k * 2, none⟩ = some (.int .i64 nx) := fun z => (HC.out z.w (HNT.out z)).1
        have l1 : ∀ z : Nx wr, z.w.cell? ⟨sb, so + k * 2 + 1, none⟩ = some (.int .i64 ny) := fun z => (HC.out z.w (HNT.out z)).2
        have g0 : ∀ z : Nx wr, z.w.cell? ⟨g, j, none⟩ = some (.int .i64 vx) := fun z => by rw [← j5]; exact HGT.out z.w (HNB.out z) j j1
        have g1 : ∀ z : Nx wr, z.w.cell? ⟨g, jn, none⟩ = some (.int .i64 fn) := fun z => by rw [← i5]; exact HGT.out z.w (HNB.out z) jn i1
        clear hcell hov hmay hkl hl i2 i3 i4 i5
        go_upto_region 7 with fail
        refine wp_region_calm (S := fun w' => ∃ z : Nx wr, w' = z.w) (((0 : Nat), false) :: ((1 : Nat), false) :: ((2 : Nat), false) :: ((3 : Nat), false) :: ((4 : Nat), false) :: ((5 : Nat), false) :: ((6 : Nat), false) :: ((7 : Nat), false) :: ((8 : Nat), false) :: ((9 : Nat), false) :: ((10 : Nat), false) :: ((11 : Nat), false) :: ((12 : Nat), false) :: ((13 : Nat), false) :: ((14 : Nat), false) :: ((15 : Nat), false) :: ((16 : Nat), false) :: ((17 : Nat), false) :: ((18 : Nat), false) :: ((19 : Nat), false) :: ((20 : Nat), false) :: ((21 : Nat), false) :: ((22 : Nat), false) :: ((23 : Nat), false) :: ((24 : Nat), false) :: ((25 : Nat), false) :: ((26 : Nat), false) :: ((27 : Nat), false) :: ((28 : Nat), false) :: ((29 : Nat), false) :: ((30 : Nat), false) :: ((31 : Nat), false) :: ((32 : Nat), false) :: ((33 : Nat), false) :: ((34 : Nat), false) :: ((35 : Nat), false) :: ((36 : Nat), false) :: ((37 : Nat), false) :: (38, true) :: (39, false) :: []) (by kernel_rfl) (by kernel_rfl) rfl (by kernel_rfl) ⟨⟨wr.drew, below_drew (Below.refl _ _)⟩, rfl⟩ ?_
        cases heq : (fn == vx - 1) with
        | false =>
          have HI2 := hid (HIn.out (by rw [HTZ, heq]; rfl))
          repeat (refine plan_take rfl (fun K hK => ?_); go_simp; (first | (refine ⟨_, fun _ => rfl, hK _ ?_⟩) | (refine hK _ ?_)); clear hK K)
          refine plan_turn rfl (fun K hK => ?_)
          go_simp
          refine hK _ _ ⟨⟨wr.drew, below_drew (Below.refl _ _)⟩, rfl⟩ ?_
          clear hK K
          repeat (refine plan_take rfl (fun K hK => ?_); go_simp; (first | (refine ⟨_, fun _ => rfl, hK _ ?_⟩) | (refine hK _ ?_)); clear hK K)
          refine plan_done ⟨rfl, ?_⟩
          have HR9 : Hid (Below w2.heap.size w2 wr.drew) := hid (below_drew HRk.out)
          clear m0 m1 m2 m3 m4 m5 l0 l1 g0 g1
          go_wp2
          go_roundw
          case rel => exact ⟨k + 1, by first | (rw [HWK.out]; simp) | simp, HKL.out, HI2, HR9⟩
          case measure =>
            have := HNL.out
            have := HKL.out
            first
              | (rw [HWK.out]; simp [intOf]; omega)
              | (simp [intOf]; omega)
        | true =>
          repeat (refine plan_take rfl (fun K hK => ?_); go_simp; (first | (refine ⟨_, fun _ => rfl, hK _ ?_⟩) | (refine hK _ ?_)); clear hK K)
          refine plan_turn rfl (fun K hK => ?_)
          go_simp
          refine Calls.mono (HMY.out _ (HBE.out _ (HNB.out ⟨wr.drew, below_drew (Below.refl _ _)⟩))) ?_
          rintro _ w6 ⟨rfl, hb6⟩
          have hn6 : Below wr.heap.size wr w6 := ⟨hb6.os, hb6.tape, hb6.output, hb6.size, hb6.block⟩
          refine hK _ _ ⟨⟨w6, hn6⟩, rfl⟩ ?_
          clear hK K
          repeat (refine plan_take rfl (fun K hK => ?_); go_simp; (first | (refine ⟨_, fun _ => rfl, hK _ ?_⟩) | (refine hK _ ?_)); clear hK K)
          refine plan_done ⟨rfl, ?_⟩
          have HR9 : Hid (Below w2.heap.size w2 w6) := hid (HNT.out ⟨w6, hn6⟩)
          have HB9 : Hid (Below (B + 2) W w6) := hid (HNB.out ⟨w6, hn6⟩)
          have HRQ : Hid (Blk w6 (B + 2) [.int .i64 0, .int .i64 0] 37) := hid (HRR.out.below hn6 HRR.out.lt)
          clear m0 m1 m2 m3 m4 m5 l0 l1 g0 g1 hb6 hn6
          cases ov with
          | false =>
            have HI2 := hid (HIn.out (by rw [HTZ, Bool.and_false]))
            go_wp2
            go_roundw
            case rel => exact ⟨k + 1, by first | (rw [HWK.out]; simp) | simp, HKL.out, HI2, HR9⟩
            case measure =>
              have := HNL.out
              have := HKL.out
              first
                | (rw [HWK.out]; simp [intOf]; omega)
                | (simp [intOf]; omega)
          | true =>
            have hr : NV = some (nx, ny) := by rw [HNH'.out]; exact HFA.out (by rw [HTZ, heq]; rfl)
            subst hr
            obtain ⟨l0, l1⟩ := HC.out w6 HR9.out
            have r0 : w6.cell? ⟨B + 2, 0, none⟩ = some (.int .i64 0) := HRQ.out.cell 0
            have r1 : w6.cell? ⟨B + 2, 1, none⟩ = some (.int .i64 0) := HRQ.out.cell 1
            have z0 := HRQ.out.frozen 0
            have z1 := HRQ.out.frozen 1
            go_wp2
            have hT := turn_two w6 (B + 2) (.int .i64 nx) (.int .i64 ny)
            have k1 : Blk ((w6.setCell ⟨B + 2, 0, none⟩ (.int .i64 nx)).setCell ⟨B + 2, 1, none⟩ (.int .i64 ny)) (B + 2) [(.int .i64 nx), (.int .i64 ny)] 37 := (HRQ.out.set 0 _).set 1 _
            exact bodyPost_ret (results_cell_tmp Try.results15 rfl rfl k1 Try.underlying37 rfl size37) rfl ⟨rfl, HBE.out _ (HB9.out.trans (hT.below (by omega)))⟩
      · obtain rfl : k = l.length := by omega
        have hl' : ((l.length : Int) < (l.length : Int)) = False := by simp
        have hr : NV = none := by rw [HNH'.out]; exact find_miss HIk.out
        subst hr
        have r0 : wr.cell? ⟨B + 2, 0, none⟩ = some (.int .i64 0) := HRR.out.cell 0
        have r1 : wr.cell? ⟨B + 2, 1, none⟩ = some (.int .i64 0) := HRR.out.cell 1
        have z0 := HRR.out.frozen 0
        have z1 := HRR.out.frozen 1
        clear hkl hl
        go_wp2
        have hT := turn_two wr (B + 2) (.int .i64 0) (.int .i64 0)
        have k1 : Blk ((wr.setCell ⟨B + 2, 0, none⟩ (.int .i64 0)).setCell ⟨B + 2, 1, none⟩ (.int .i64 0)) (B + 2) [(.int .i64 0), (.int .i64 0)] 37 := (HRR.out.set 0 _).set 1 _
        exact bodyPost_ret (results_cell_tmp Try.results15 rfl rfl k1 Try.underlying37 rfl size37) rfl ⟨rfl, HBE.out _ (HBk.out.trans (hT.below (by omega)))⟩
end Go.Proofs.Ytgkjlfpkhpnpfaa
