/- The law CellsAround, walked. -/
import Derived.Test.YtnilgnnlobiojaaSame
import Derived.Test.YtnilgnnlobiojaaSt
import Derived.Test.YtnilgnnlobiojaaPref
import Derived.Test.YtnilgnnlobiojaaRowKit
namespace Go.Proofs.Ytnilgnnlobiojaa
open Go.RowKit
theorem IntsAt.pre {w : World} {p : Option Addr} {M N cap : Nat} {zs : List Int} (h : IntsAt w (.slice p M cap) zs) (hN : N ≤ M) : IntsAt w (.slice p N cap) (zs.take N) := by
  obtain ⟨p', c', e, hc, hz, h⟩ := h
  simp only [Value.slice.injEq] at e
  obtain ⟨rfl, rfl, rfl⟩ := e
  have hl : (zs.take N).length = N := by rw [List.length_take]; omega
  refine ⟨p, cap, by rw [hl], by omega, hz, fun hne => ?_⟩
  obtain ⟨sb, so, rfl, hcell⟩ := h (fun e => hne (by rw [e]; simp))
  refine ⟨sb, so, rfl, fun i hi => ?_⟩
  rw [hl] at hi
  have h1 := hcell i (by omega)
  rw [h1]
  congr 2
  simp [List.getD, hi]
/-- A world in which a cell lies in block g. -/
structure Kq (g : Nat) (x y : Int) (V : World) where
  w : World
  g0 : w.cell? ⟨g, 0, none⟩ = some (.int .i64 x)
  g1 : w.cell? ⟨g, 1, none⟩ = some (.int .i64 y)
  be : Below V.heap.size V w
set_option maxRecDepth 200000 in
set_option maxHeartbeats 16000000 in
theorem aroundLaw_walk (os : List Opn) (p : Option Addr) (M cap : Nat) (x y rr : Int) (w : World) (hM : M = os.length) (hI : RowAt encO 5 w (.slice p M cap) os) (hr : 0 ≤ rr ∧ rr ≤ 255) :
    Calls Try.prog 5 #[.slice p M cap, C x y, .int .u8 rr] w fun e w' => Out w (.bool true) e w' := by
  have HAW := hid awake_any
  have HRR := hid hr
  clear hr
  obtain ⟨g, hg⟩ : ∃ g, g = w.heap.size := ⟨_, rfl⟩
  obtain ⟨V, hV⟩ : ∃ V, V = w.alloc (.cells #[.int .i64 x, .int .i64 y] 32) := ⟨_, rfl⟩
  have hb : Below w.heap.size w V := by rw [hV]; exact (Below.refl _ _).alloc (Nat.le_refl _) _
  have h1 : Blk V g [.int .i64 x, .int .i64 y] 32 := by rw [hV]; exact Blk.new' _ _ _ _ hg
  have HB := hid hb
  have H1 := hid h1
  have HVE := hid (fun (_ : Nat) => hV)
  have HGE := hid (fun (_ : Nat) => hg)
  have HI := hid hI
  clear hb h1 hV hg hI
  unfold Out at *
  unfold C at *
  by_cases hbig : 200 < M
  · have hb1 : (200 : Int) < (M : Int) := by omega
    clear hM
    go_enter Try.func5, Try.ntmps5
    go_upto_region 1 with fail
    rw [← HVE.out 0, ← HGE.out 0]
    clear HVE
    go_wp2_with fail
    refine Calls.mono (HAW.out _) ?_
    rintro _ W1 ⟨rfl, hb1⟩
    have HB1 := hid (HB.out.trans (hb1.mono HB.out.size))
    clear hb1
    go_wp2_with fail
    refine Calls.mono (HAW.out _) ?_
    rintro _ W2 ⟨rfl, hb2⟩
    have HB2 := hid (HB1.out.trans (hb2.mono HB1.out.size))
    clear hb2
    go_wp2
    go_ret
    exact ⟨rfl, HB2.out⟩
  have hb1 : ((200 : Int) < (M : Int)) = False := by simp; omega
  have hM6 : (M : Int) ≤ 1000000 := by omega
  have HM200 : Hid (M ≤ 200) := hid (by omega)
  have HMO := hid (fun (_ : Nat) => hM)
  clear hM hbig
  go_enter Try.func5, Try.ntmps5
  go_upto_region 1 with fail
  rw [← HVE.out 0, ← HGE.out 0]
  clear HVE
  go_wp2_with fail
  refine Calls.mono (HAW.out _) ?_
  rintro _ W1 ⟨rfl, hb1⟩
  have HB1 := hid (HB.out.trans (hb1.mono HB.out.size))
  have H2 := hid (H1.out.below hb1 H1.out.lt)
  clear hb1 HB H1 HAW
  obtain ⟨B, hB⟩ : ∃ B, B = W1.heap.size := ⟨_, rfl⟩
  obtain ⟨Z, hZ⟩ : ∃ Z, Z = W1.alloc (.cells #[.map none, .map none] 55) := ⟨_, rfl⟩
  have hnew := new_any W1
  rw [← hB, ← hZ] at hnew
  have hst : St Z B B (fun _ => none) (fun _ => none) 0 := by rw [hZ, hB]; exact St.new W1
  have hbz : Below B W1 Z := by rw [hZ, hB]; exact (Below.refl _ _).alloc (Nat.le_refl _) _
  have HNEW := hid hnew
  have HSZ := hid (show B ≤ Z.heap.size by rw [hZ, hB]; simp)
  have HGB := hid (show g < B by rw [hB]; exact H2.out.lt)
  have HBZ : Hid (Below B W1 Z) := hbz
  have HWB : Hid (w.heap.size ≤ B) := by rw [hB]; exact HB1.out.size
  have HIB : Hid (RowAt encO 5 W1 (.slice p M cap) os) := HI.out.below HB1.out
  have HBE := hid (fun (_ : Nat) => hB)
  have HST := hid hst
  clear hnew hst hbz hB hZ HI HGE
  go_upto_region 4 with fail
  refine Calls.mono HNEW.out ?_
  rintro _ W2 ⟨rfl, h2⟩
  subst h2
  clear HNEW
  go_upto_region 5 with fail
  go_wp2_with fail
  go_loopw [8] (fun iv wr => ∃ (i : Nat) (fa : Cl → Option Value) (F : Int → Option Cl) (n : Nat), iv = .int .i64 (i : Int) ∧ i ≤ M ∧ Hid (St wr B B fa F n) ∧ Hid (n ≤ i) ∧ Hid (Below B W1 wr) ∧ Hid (B ≤ wr.heap.size)) (fun iv _ => M - (intOf iv).toNat)
  case atStart => exact ⟨0, _, _, 0, rfl, Nat.zero_le _, HST, Nat.le_refl _, HBZ, HSZ⟩
  case round =>
    clear HST HBZ HSZ
    obtain ⟨i, fa, F, n, rfl, hi, HST, HNI, HBR, HSR⟩ := hrel
    by_cases hlt : i < M
    · have hl' : (i : Int) < (M : Int) := by omega
      have hbr : Below W1.heap.size W1 wr := by rw [← HBE.out 0]; exact HBR.out
      obtain ⟨hx, sb, so, hps, hsb, hcell⟩ := RowAt.pos layO (HIB.out.below hbr) i hlt
      obtain ⟨o, ho⟩ : ∃ o, os[i] = o := ⟨_, rfl⟩
      obtain ⟨ok, oi, orr, ox, oy⟩ := o
      have e1 : wr.cell? ⟨sb, so + i * 5 + 1, none⟩ = some (.int .i64 oi) := hcell 1 (.int .i64 oi) (by rw [ho]; rfl)
      have e3 : wr.cell? ⟨sb, so + i * 5 + 3, none⟩ = some (.int .i64 ox) := hcell 3 (.int .i64 ox) (by rw [ho]; rfl)
      have e4 : wr.cell? ⟨sb, so + i * 5 + 4, none⟩ = some (.int .i64 oy) := hcell 4 (.int .i64 oy) (by rw [ho]; rfl)
      subst hps
      clear hbr hcell ho
      have hput := (HST.out.below (Below.drewN (Below.refl _ _) 1)).put HSR.out oi ox oy
      unfold C at hput
      have HPUT := hid hput
      clear hput
      go_upto_region 7 with fail
      go_still_tail 11, (by kernel_rfl)
      go_wp2_with fail
      refine Calls.mono HPUT.out ?_
      rintro _ Y ⟨rfl, hby, _, fa', hst', _⟩
      have HBY : Hid (Below B W1 Y) := (Below.drewN HBR.out 1).trans hby
      have HSY : Hid (B ≤ Y.heap.size) := Nat.le_trans HSR.out hby.size
      have HNY : Hid (putN F n oi (ox, oy) ≤ i + 1) := by
        have h1 := putN_le F n oi (ox, oy)
        have h2 := HNI.out
        exact hid (by omega)
      have HSTY := hid hst'
      clear hst' hby HPUT
      go_wp2
      go_roundw
      case rel => exact ⟨i + 1, fa', _, _, by simp, by omega, HSTY, HNY, HBY, HSY⟩
      case measure => simp [intOf]; omega
    · obtain rfl : i = M := by omega
      have hl' : ((i : Int) < (i : Int)) = False := by simp
      have HG4 := hid (H2.out.below HBR.out HGB.out)
      have hnn : (n : Int) ≤ 200 := by have := HNI.out; have := HM200.out; omega
      have HNN := hid hnn
      clear HIB HMO H2 hnn HNI hM6 hi hlt
      go_upto_region 8 with fail
      obtain ⟨hr0, hr1⟩ := HRR.out
      have har := fun W (h : Below wr.heap.size wr W) => (HST.out.below h).around x y rr
      have har1 := fun W (h : Below wr.heap.size wr W) => (HST.out.below h).around x y (rr + 1)
      unfold C at har har1
      have HAR := hid har
      have HAR1 := hid har1
      clear har har1
      have k0 : ∀ q : Kq g x y wr, q.w.cell? ⟨g, 0, none⟩ = some (.int .i64 x) := fun q => q.g0
      have k1 : ∀ q : Kq g x y wr, q.w.cell? ⟨g, 1, none⟩ = some (.int .i64 y) := fun q => q.g1
      have key : ∀ Z, Below wr.heap.size wr Z → ∃ q : Kq g x y wr, Z = q.w := fun Z hz => by
        have h1 := HG4.out.below hz HG4.out.lt
        exact ⟨⟨Z, h1.cell 0, h1.cell 1, hz⟩, rfl⟩
      have hwr : IntKind.i64.wrap (rr + 1) = rr + 1 := by rw [IntKind.wrap_i64]; omega
      have hwc : IntKind.i64.wrap rr = rr := by rw [IntKind.wrap_i64]; omega
      refine wp_region_calm (S := fun w' => ∃ q : Kq g x y wr, w' = q.w) ((0, false) :: (1, false) :: (2, false) :: (3, false) :: (5, false) :: (6, false) :: (7, false) :: (8, false) :: (9, false) :: (4, true) :: (10, true) :: (11, false) :: (12, false) :: []) rfl (by kernel_rfl) (by kernel_rfl) (by kernel_rfl) (key _ (Below.drewN (Below.refl _ _) 1)) ?_
      iterate 9 (refine plan_take rfl (fun K hK => ?_); go_simp; (refine ⟨_, fun _ => rfl, hK _ ?_⟩); clear hK K)
      refine plan_turn rfl (fun K hK => ?_)
      go_simp
      refine Calls.mono (HAR.out _ (Below.drewN (Below.refl _ _) 1)) ?_
      rintro _ W3 ⟨sa, hra, hla, pa, ca, rfl, hoa, hb3⟩
      obtain ⟨N, hN⟩ : ∃ N, N = (sa.map Prod.fst).length := ⟨_, rfl⟩
      rw [← hN] at hoa
      rw [← hN]
      have hN2 : N = sa.length := by rw [hN, List.length_map]
      have HN := hid (fun (_ : Nat) => hN2)
      have HNB : Hid (N ≤ n) := by rw [hN2]; exact hla
      have HRA := hid hra
      have HOA := hid hoa
      have HB3 : Hid (Below wr.heap.size wr W3) := (Below.drewN (Below.refl _ _) 1).trans hb3
      clear hN hN2 hoa hla hra hb3
      refine hK _ _ (key _ HB3.out) ?_
      clear hK K
      refine plan_turn rfl (fun K hK => ?_)
      go_simp
      refine Calls.mono (HAR1.out _ HB3.out) ?_
      rintro _ W4 ⟨sb, hrb, hlb, pb, cb, rfl, hob, hb4⟩
      obtain ⟨N2, hN⟩ : ∃ N2, N2 = (sb.map Prod.fst).length := ⟨_, rfl⟩
      rw [← hN] at hob
      rw [← hN]
      have hN2 : N2 = sb.length := by rw [hN, List.length_map]
      have HN2 := hid (fun (_ : Nat) => hN2)
      have HNB2 : Hid (N2 ≤ n) := by rw [hN2]; exact hlb
      have HRB := hid hrb
      have HOB := hid hob
      have HOA4 := hid (HOA.out.below hb4)
      have HB4 : Hid (Below wr.heap.size wr W4) := HB3.out.trans (hb4.mono HB3.out.size)
      clear hN hN2 hob hlb hrb hb4 HOA HB3
      refine hK _ _ (key _ HB4.out) ?_
      clear hK K
      iterate 2 (refine plan_take rfl (fun K hK => ?_); go_simp; (refine ⟨_, fun _ => rfl, hK _ ?_⟩); clear hK K)
      refine plan_done ⟨rfl, ?_⟩
      have HPR := hid (HRA.out.pre HRB.out)
      have hle : N ≤ N2 := by have := HPR.out.2.1; have := HN.out 0; have := HN2.out 0; omega
      have hN200 : (N2 : Int) ≤ 200 := by have := HNB2.out; have := HNN.out; omega
      obtain ⟨_, hcb⟩ : ∃ _ : True, N2 ≤ cb := by
        obtain ⟨p', c', e, hc, _⟩ := HOB.out.ints
        simp only [Value.slice.injEq] at e
        obtain ⟨-, e1, rfl⟩ := e
        exact ⟨trivial, by omega⟩
      have hng : ((N2 : Int) < (N : Int)) = False := by simp; omega
      clear k0 k1 key HAR HAR1 hwc
      go_upto_region 9 with fail
      go_wp2_with fail
      have hpre := HOB.out.ints.pre hle
      rw [← List.map_take] at hpre
      have hsp := HPR.out.1
      rw [← HN.out 0] at hsp
      rw [← hsp] at hpre
      have hsame := sameInts_any (sa.map Prod.fst) pa pb N ca cb W4 HOA4.out.ints hpre (by omega)
      have HSAME := hid hsame
      clear hpre hsp hsame
      refine Calls.mono HSAME.out ?_
      rintro _ Y ⟨rfl, hby⟩
      have HBY : Hid (Below wr.heap.size wr Y) := HB4.out.trans (hby.mono HB4.out.size)
      have HSTY := hid (HST.out.below HBY.out)
      have HGY := hid (HG4.out.below HBY.out HG4.out.lt)
      have HIY := hid (HOB.out.ints.below hby)
      have HBT : Hid (Below w.heap.size w Y) := HB1.out.trans ((HBR.out.trans (HBY.out.mono HSR.out)).mono HWB.out)
      clear hby HSAME HST HG4 HOB HOA4 HB4
      have HYY : Hid (Below Y.heap.size Y Y) := Below.refl _ _
      go_upto_region 12 with fail
      go_wp2_with fail
      go_loopw [11] (fun iv wi => ∃ k : Nat, iv = .int .i64 (k : Int) ∧ k ≤ N2 ∧ Hid (Below Y.heap.size Y wi)) (fun iv _ => N2 - (intOf iv).toNat)
      case atStart => exact ⟨0, rfl, Nat.zero_le _, HYY⟩
      case round =>
        clear HYY
        obtain ⟨k, rfl, hk, HW⟩ := hrel
        by_cases hlt : k < N2
        · have hl' : (k : Int) < (N2 : Int) := by omega
          have HSW := hid (HSTY.out.below HW.out)
          have HGW := hid (HGY.out.below HW.out HGY.out.lt)
          obtain ⟨qb, qo, hpb, hcell⟩ := (HIY.out.below HW.out).pos k hlt
          have hkb : k < sb.length := by have := HN2.out 0; omega
          obtain ⟨z, hz⟩ : ∃ z, z = sb[k].1 := ⟨_, rfl⟩
          obtain ⟨D, hD⟩ : ∃ D, D = sb[k].2 := ⟨_, rfl⟩
          have ek : wr.cell? ⟨qb, qo + k, none⟩ = some (.int .i64 z) := by
            rw [hcell k hlt, hz]
            simp [List.getD, List.getElem?_eq_getElem hkb]
          obtain ⟨⟨c1, c2⟩, hFz, hDd, hDr⟩ := HRB.out.at k hkb
          rw [← hz] at hFz
          rw [← hD] at hDd hDr
          have hwh : whV F z = .tuple #[.agg #[.int .i64 c1, .int .i64 c2], .bool true] := by unfold whV; rw [hFz]; rfl
          have h14 := HSW.out.where z
          rw [hwh] at h14
          have H14 := hid h14
          have hdi := fun W => refDist_any x y c1 c2 W
          simp only [← hDd] at hdi
          unfold C at hdi
          have HDI := hid hdi
          have hpr := HPR.out.2.2 k hkb
          rw [← hD, ← HN.out 0] at hpr
          have HPK := hid hpr
          have HDR := hid hDr
          have HCE := hid hcell
          have HZE := hid (fun (_ : Nat) => hz)
          have HDE := hid (fun (_ : Nat) => hD)
          have HFZ := hid hFz
          subst hpb
          clear hcell hz hD hFz hDd hDr hwh h14 hdi hpr
          go_upto_region 15 with (go_at_call 14; refine Calls.mono H14.out ?_; rintro _ U1 ⟨rfl, hb1⟩)
          obtain ⟨U2, hU2⟩ : ∃ U2, U2 = U1.alloc (.cells #[.int .i64 c1, .int .i64 c2] 32) := ⟨_, rfl⟩
          obtain ⟨sa1, hsa⟩ : ∃ sa1, sa1 = U1.heap.size := ⟨_, rfl⟩
          have hb2 : Below wr.heap.size wr U2 := by rw [hU2]; exact hb1.alloc hb1.size _
          have HSA : Hid (Blk U2 sa1 [.int .i64 c1, .int .i64 c2] 32) := by rw [hU2]; exact Blk.new' _ _ _ _ hsa
          rw [← hU2, ← hsa]
          have HGU := hid (HGW.out.below hb2 HGW.out.lt)
          have HSU := hid (HSW.out.below hb2)
          have HBU : Hid (Below Y.heap.size Y U2) := HW.out.trans (hb2.mono HW.out.size)
          have g0 : U2.cell? ⟨g, 0, none⟩ = some (.int .i64 x) := HGU.out.cell 0
          have g1 : U2.cell? ⟨g, 1, none⟩ = some (.int .i64 y) := HGU.out.cell 1
          have s0 : U2.cell? ⟨sa1, 0, none⟩ = some (.int .i64 c1) := HSA.out.cell 0
          have s1 : U2.cell? ⟨sa1, 1, none⟩ = some (.int .i64 c2) := HSA.out.cell 1
          clear hb1 hb2 hU2 hsa HW HSW HGW H14 ek
          go_upto_region 16 with (go_at_call 17; refine Calls.mono (HDI.out _) ?_; rintro _ U3 ⟨rfl, hb3⟩)
          have HSV := hid (HSU.out.below hb3)
          have HGV := hid (HGU.out.below hb3 HGU.out.lt)
          have HBV : Hid (Below Y.heap.size Y U3) := HBU.out.trans (hb3.mono HBU.out.size)
          have hD1 : D ≤ rr + 1 := HDR.out
          have hD2 : (rr + 1 < D) = False := by simp; omega
          clear hb3 HSU HGU HBU HSA g0 g1 s0 s1
          have hq : (decide (D ≤ rr) != decide ((k : Int) < (N : Int))) = false := by
            have h1 : decide (D ≤ rr) = decide ((k : Int) < (N : Int)) := by
              rw [decide_eq_decide, HPK.out]; omega
            rw [h1]; simp
          go_upto_region 18 with fail
          clear hq
          rcases Nat.eq_zero_or_pos k with hk0 | hk0
          · have hkz : ((0 : Int) < (k : Int)) = False := by simp; omega
            go_wp2
            go_roundw
            case rel => exact ⟨1, rfl, by omega, HBV⟩
            case measure => simp [intOf]; omega
          · have hkz : (0 : Int) < (k : Int) := by omega
            go_upto_region 19 with fail
            clear hkz
            have hkw : IntKind.i64.wrap ((k : Int) - 1) = ((k - 1 : Nat) : Int) := by rw [IntKind.wrap_i64]; omega
            have hjl : k - 1 < N2 := by omega
            obtain ⟨j, hj⟩ : ∃ j, j = k - 1 := ⟨_, rfl⟩
            rw [← hj] at hkw hjl
            have hjb : j < sb.length := by omega
            have hjk : k = j + 1 := by omega
            obtain ⟨z', hz'⟩ : ∃ z', z' = sb[j].1 := ⟨_, rfl⟩
            obtain ⟨P, hP⟩ : ∃ P, P = sb[j].2 := ⟨_, rfl⟩
            have hstep : P < D ∨ P = D ∧ z' < z := by
              have h1 := HRB.out.step j (by omega)
              have h2 := HZE.out 0
              have h3 := HDE.out 0
              subst hjk
              rw [hP, hz', h2, h3]; exact h1
            have hbv := HBV.out.trans (Below.refl _ _)
            have ej : U3.cell? ⟨qb, qo + j, none⟩ = some (.int .i64 z') := by
              have h1 := (HIY.out.below HBV.out).pos j hjl
              obtain ⟨b', o', e, hc⟩ := h1
              simp only [Option.some.injEq, Addr.mk.injEq] at e
              obtain ⟨rfl, rfl, -⟩ := e
              rw [hc j hjl, hz']
              simp [List.getD, List.getElem?_eq_getElem hjb]
            obtain ⟨⟨c3, c4⟩, hFz, hPd, hPr⟩ := HRB.out.at j hjb
            rw [← hz'] at hFz
            rw [← hP] at hPd hPr
            have hwh : whV F z' = .tuple #[.agg #[.int .i64 c3, .int .i64 c4], .bool true] := by unfold whV; rw [hFz]; rfl
            have h14 := HSV.out.where z'
            rw [hwh] at h14
            have H14 := hid h14
            have hdi := fun W => refDist_any x y c3 c4 W
            simp only [← hPd] at hdi
            unfold C at hdi
            have HDI2 := hid hdi
            have HSTEP := hid hstep
            have HZP := hid (fun (_ : Nat) => hz')
            have HJK := hid hjk
            have hkj : (k : Int) = (j : Int) + 1 := by omega
            have HKJ := hid hkj
            clear hz' hP hFz hPd hPr hwh h14 hdi hstep hbv hjk hj hkj hk0
            go_upto_region 20 with (go_at_call 14; refine Calls.mono H14.out ?_; rintro _ X1 ⟨rfl, hbx⟩)
            obtain ⟨X2, hX2⟩ : ∃ X2, X2 = X1.alloc (.cells #[.int .i64 c3, .int .i64 c4] 32) := ⟨_, rfl⟩
            obtain ⟨sa2, hsa⟩ : ∃ sa2, sa2 = X1.heap.size := ⟨_, rfl⟩
            have hb2 : Below U3.heap.size U3 X2 := by rw [hX2]; exact hbx.alloc hbx.size _
            have HSA : Hid (Blk X2 sa2 [.int .i64 c3, .int .i64 c4] 32) := by rw [hX2]; exact Blk.new' _ _ _ _ hsa
            rw [← hX2, ← hsa]
            have HGX := hid (HGV.out.below hb2 HGV.out.lt)
            have HBX : Hid (Below Y.heap.size Y X2) := HBV.out.trans (hb2.mono HBV.out.size)
            have g0 : X2.cell? ⟨g, 0, none⟩ = some (.int .i64 x) := HGX.out.cell 0
            have g1 : X2.cell? ⟨g, 1, none⟩ = some (.int .i64 y) := HGX.out.cell 1
            have s0 : X2.cell? ⟨sa2, 0, none⟩ = some (.int .i64 c3) := HSA.out.cell 0
            have s1 : X2.cell? ⟨sa2, 1, none⟩ = some (.int .i64 c4) := HSA.out.cell 1
            clear hbx hb2 hX2 hsa HSV HGV HBV H14 ej
            go_upto_region 21 with (go_at_call 17; refine Calls.mono (HDI2.out _) ?_; rintro _ X3 ⟨rfl, hb3⟩)
            have HBZ : Hid (Below Y.heap.size Y X3) := HBX.out.trans (hb3.mono HBX.out.size)
            clear hb3 HGX HBX HSA g0 g1 s0 s1
            have hX := (HIY.out.below HBZ.out).pos j hjl
            obtain ⟨b', o', e, hc⟩ := hX
            simp only [Option.some.injEq, Addr.mk.injEq] at e
            obtain ⟨rfl, rfl, -⟩ := e
            have hkb' : k < sb.length := by have := HN2.out 0; omega
            have ek : X3.cell? ⟨qb, qo + k, none⟩ = some (.int .i64 z) := by
              rw [hc k hlt, HZE.out 0]
              simp [List.getD, List.getElem?_eq_getElem hkb']
            have ej : X3.cell? ⟨qb, qo + j, none⟩ = some (.int .i64 z') := by
              rw [hc j hjl, HZP.out 0]
              simp [List.getD, List.getElem?_eq_getElem hjb]
            clear hc hkb'
            rcases HSTEP.out with hs | ⟨hs, hzz⟩
            · have f1 : (D < P) = False := by simp; omega
              have f2 : (P == D) = false := by simp; omega
              clear HSTEP
              go_quiet (fail)
              all_goals go_wp2
              all_goals go_roundw
              case rel => exact ⟨k + 1, by simp, by omega, Below.drewN HBZ.out _⟩
              case measure => simp [intOf]; omega
            · have hs' := hs
              clear HSTEP HDI2
              subst hs'
              have f3 : (z ≤ z') = False := by simp; omega
              clear hs
              go_quiet (fail)
              all_goals go_wp2
              all_goals go_roundw
              case rel => exact ⟨k + 1, by simp, by omega, Below.drewN HBZ.out _⟩
              case measure => simp [intOf]; omega
        · obtain rfl : k = N2 := by omega
          have hl' : ((k : Int) < (k : Int)) = False := by simp
          go_wp2
          go_ret
          exact ⟨rfl, HBT.out.trans (HW.out.mono HBT.out.size)⟩
end Go.Proofs.Ytnilgnnlobiojaa
