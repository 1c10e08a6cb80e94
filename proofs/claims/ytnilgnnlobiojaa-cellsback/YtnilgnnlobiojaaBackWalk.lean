/- The law CellsBack, walked. -/
import Derived.Test.YtnilgnnlobiojaaEqc
import Derived.Test.YtnilgnnlobiojaaSame
import Derived.Test.YtnilgnnlobiojaaRowKit
namespace Go.Proofs.Ytnilgnnlobiojaa
open Go.RowKit
attribute [local go_sem ↓] run_neqC run_eqlC
theorem putE_free {F : Int → Option Cl} {n : Nat} {i : Int} (h : F i = none) (hn : n < 4096) (c : Cl) : putE F n i c = if measC c then 0 else 2 := by
  unfold putE
  rw [h]
  by_cases hm : measC c = true
  · rw [if_pos hm, if_pos hm, if_neg]; simp; omega
  · rw [if_neg hm, if_neg hm]
theorem remF_ins (F : Int → Option Cl) (i : Int) (c : Cl) (h : F i = none) : remF (insF F i c) i = F := by
  funext j
  unfold remF insF
  by_cases hj : j = i
  · rw [if_pos hj, hj, h]
  · rw [if_neg hj, if_neg hj]
set_option maxRecDepth 20000 in
set_option maxHeartbeats 16000000 in
theorem back_walk (os : List Opn) (p : Option Addr) (M cap : Nat) (id x y : Int) (w : World) (hM : M = os.length) (hI : RowAt encO 5 w (.slice p M cap) os) :
    Calls Try.prog 6 #[.slice p M cap, .int .i64 id, C x y] w fun e w' => Out w (.bool true) e w' := by
  have HAW := hid awake_any
  obtain ⟨g, hg⟩ : ∃ g, g = w.heap.size := ⟨_, rfl⟩
  obtain ⟨V, hV⟩ : ∃ V, V = w.alloc (.cells #[.int .i64 x, .int .i64 y] 32) := ⟨_, rfl⟩
  have hb : Below w.heap.size w V := by rw [hV]; exact (Below.refl _ _).alloc (Nat.le_refl _) _
  have h1 : Blk V g [.int .i64 x, .int .i64 y] 32 := by rw [hV]; exact Blk.new' _ _ _ _ hg
  have HB := hid hb
  have H1 := hid h1
  have HVE := hid (fun (_ : Nat) => hV)
  have HGE := hid (fun (_ : Nat) => hg)
  have HI := hid hI
  clear hb h1 hV hg hI
  unfold Out at *
  unfold C at *
  by_cases hbig : 200 < M
  · have hb1 : (200 : Int) < (M : Int) := by omega
    clear hM
    go_enter Try.func6, Try.ntmps6
    go_upto_region 1 with fail
    rw [← HVE.out 0, ← HGE.out 0]
    clear HVE
    go_wp2_with fail
    refine Calls.mono (HAW.out _) ?_
    rintro _ W1 ⟨rfl, hb1⟩
    have HB1 := hid (HB.out.trans (hb1.mono HB.out.size))
    clear hb1
    go_wp2_with fail
    refine Calls.mono (HAW.out _) ?_
    rintro _ W2 ⟨rfl, hb2⟩
    have HB2 := hid (HB1.out.trans (hb2.mono HB1.out.size))
    clear hb2
    go_wp2
    go_ret
    exact ⟨rfl, HB2.out⟩
  have hb1 : ((200 : Int) < (M : Int)) = False := by simp; omega
  have hM6 : (M : Int) ≤ 1000000 := by omega
  have HM200 : Hid (M ≤ 200) := hid (by omega)
  have HMO := hid (fun (_ : Nat) => hM)
  clear hM hbig
  go_enter Try.func6, Try.ntmps6
  go_upto_region 1 with fail
  rw [← HVE.out 0, ← HGE.out 0]
  clear HVE
  go_wp2_with fail
  refine Calls.mono (HAW.out _) ?_
  rintro _ W1 ⟨rfl, hb1⟩
  have HB1 := hid (HB.out.trans (hb1.mono HB.out.size))
  have H2 := hid (H1.out.below hb1 H1.out.lt)
  clear hb1 HB H1 HAW
  obtain ⟨B, hB⟩ : ∃ B, B = W1.heap.size := ⟨_, rfl⟩
  obtain ⟨Z, hZ⟩ : ∃ Z, Z = W1.alloc (.cells #[.map none, .map none] 55) := ⟨_, rfl⟩
  have hnew := new_any W1
  rw [← hB, ← hZ] at hnew
  have hst : St Z B B (fun _ => none) (fun _ => none) 0 := by rw [hZ, hB]; exact St.new W1
  have hbz : Below B W1 Z := by rw [hZ, hB]; exact (Below.refl _ _).alloc (Nat.le_refl _) _
  have HNEW := hid hnew
  have HSZ := hid (show B ≤ Z.heap.size by rw [hZ, hB]; simp)
  have HGB := hid (show g < B by rw [hB]; exact H2.out.lt)
  have HBZ : Hid (Below B W1 Z) := hbz
  have HWB : Hid (w.heap.size ≤ B) := by rw [hB]; exact HB1.out.size
  have HIB : Hid (RowAt encO 5 W1 (.slice p M cap) os) := HI.out.below HB1.out
  have HBE := hid (fun (_ : Nat) => hB)
  have HST := hid hst
  clear hnew hst hbz hB hZ HI HGE
  go_upto_region 4 with fail
  refine Calls.mono HNEW.out ?_
  rintro _ W2 ⟨rfl, h2⟩
  subst h2
  clear HNEW
  go_upto_region 5 with fail
  go_wp2_with fail
  go_loopw [8] (fun iv wr => ∃ (i : Nat) (fa : Cl → Option Value) (F : Int → Option Cl) (n : Nat), iv = .int .i64 (i : Int) ∧ i ≤ M ∧ Hid (St wr B B fa F n) ∧ Hid (n ≤ i) ∧ Hid (F id = none) ∧ Hid (Below B W1 wr) ∧ Hid (B ≤ wr.heap.size)) (fun iv _ => M - (intOf iv).toNat)
  case atStart => exact ⟨0, _, _, 0, rfl, Nat.zero_le _, HST, Nat.le_refl _, rfl, HBZ, HSZ⟩
  case round =>
    clear HST HBZ HSZ
    obtain ⟨i, fa, F, n, rfl, hi, HST, HNI, HFI, HBR, HSR⟩ := hrel
    by_cases hlt : i < M
    · have hl' : (i : Int) < (M : Int) := by omega
      have hbr : Below W1.heap.size W1 wr := by rw [← HBE.out 0]; exact HBR.out
      obtain ⟨hx, sb, so, hps, hsb, hcell⟩ := RowAt.pos layO (HIB.out.below hbr) i hlt
      obtain ⟨o, ho⟩ : ∃ o, os[i] = o := ⟨_, rfl⟩
      obtain ⟨ok, oi, orr, ox, oy⟩ := o
      have e1 : wr.cell? ⟨sb, so + i * 5 + 1, none⟩ = some (.int .i64 oi) := hcell 1 (.int .i64 oi) (by rw [ho]; rfl)
      have e3 : wr.cell? ⟨sb, so + i * 5 + 3, none⟩ = some (.int .i64 ox) := hcell 3 (.int .i64 ox) (by rw [ho]; rfl)
      have e4 : wr.cell? ⟨sb, so + i * 5 + 4, none⟩ = some (.int .i64 oy) := hcell 4 (.int .i64 oy) (by rw [ho]; rfl)
      subst hps
      clear hbr hcell ho
      by_cases hid1 : oi = id
      · have hq : (oi != id) = false := by simp [hid1]
        go_wp2
        go_roundw
        case rel => exact ⟨i + 1, fa, F, n, by simp, by omega, HST, Nat.le_succ_of_le HNI.out, HFI, HBR, HSR⟩
        case measure => simp [intOf]; omega
      · have hq : (oi != id) = true := by simpa using hid1
        have hput := (HST.out.below (Below.drewN (Below.refl _ _) 1)).put HSR.out oi ox oy
        unfold C at hput
        have HPUT := hid hput
        clear hput
        go_upto_region 8 with fail
        go_still_tail 11, (by kernel_rfl)
        go_wp2_with fail
        refine Calls.mono HPUT.out ?_
        rintro _ Y ⟨rfl, hby, _, fa', hst', _⟩
        have HBY : Hid (Below B W1 Y) := (Below.drewN HBR.out 1).trans hby
        have HSY : Hid (B ≤ Y.heap.size) := Nat.le_trans HSR.out hby.size
        have HFY : Hid (putF' F n oi (ox, oy) id = none) := by
          unfold putF'
          split
          · unfold insF
            rw [if_neg (fun e => hid1 e.symm)]; exact HFI
          · exact HFI
        have HNY : Hid (putN F n oi (ox, oy) ≤ i + 1) := by
          have h1 := putN_le F n oi (ox, oy)
          have h2 := HNI.out
          exact hid (by omega)
        have HSTY := hid hst'
        clear hst' hby HPUT
        go_wp2
        go_roundw
        case rel => exact ⟨i + 1, fa', _, _, by simp, by omega, HSTY, HNY, HFY, HBY, HSY⟩
        case measure => simp [intOf]; omega
    · obtain rfl : i = M := by omega
      have hl' : ((i : Int) < (i : Int)) = False := by simp
      have HG4 := hid (H2.out.below HBR.out HGB.out)
      obtain ⟨N, hN⟩ : ∃ N, N = n := ⟨_, rfl⟩
      have hlen := HST.out.len
      have har := HST.out.around x y 1073741824
      have hn200 : n < 4096 := by have := HNI.out; have := HM200.out; omega
      have hnn : (n : Int) ≤ 4096 := by omega
      have c0 : wr.cell? ⟨g, 0, none⟩ = some (.int .i64 x) := HG4.out.cell 0
      have c1 : wr.cell? ⟨g, 1, none⟩ = some (.int .i64 y) := HG4.out.cell 1
      unfold C at har
      have HLEN := hid hlen
      have HAR := hid har
      have HN2 := hid hn200
      clear hlen har hn200 HIB HMO H2 hN
      go_upto_region 9 with fail
      go_upto_region 10 with (go_at_call 11; refine Calls.mono HLEN.out ?_; rintro _ W9 ⟨rfl, h9⟩; replace h9 := h9.symm; subst h9)
      go_upto_region 11 with fail
      refine Calls.mono HAR.out ?_
      rintro _ Y1 ⟨s, hring, hsl, ps, cs, rfl, hos, hb1⟩
      obtain ⟨xs, hxs⟩ : ∃ xs, xs = s.map Prod.fst := ⟨_, rfl⟩
      obtain ⟨L, hL⟩ : ∃ L, L = xs.length := ⟨_, rfl⟩
      have hLs : L ≤ 1000000 := by rw [hL, hxs, List.length_map]; have := HN2.out; omega
      rw [← hxs, ← hL] at hos
      rw [← hxs, ← hL]
      have HXS := hid (fun (_ : Nat) => hxs)
      have HL := hid (fun (_ : Nat) => hL)
      have HLS := hid hLs
      have HRG := hid hring
      have HAW1 := hid (Away.new HST.out hos (Nat.le_refl _))
      have HS1 := hid (HST.out.below hb1)
      have HO1 := hid hos
      have HG5 := hid (HG4.out.below hb1 HG4.out.lt)
      have HB5 : Hid (Below B W1 Y1) := HBR.out.trans (hb1.mono HSR.out)
      have HZ5 : Hid (B ≤ Y1.heap.size) := Nat.le_trans HSR.out hb1.size
      have d0 : Y1.cell? ⟨g, 0, none⟩ = some (.int .i64 x) := HG5.out.cell 0
      have d1 : Y1.cell? ⟨g, 1, none⟩ = some (.int .i64 y) := HG5.out.cell 1
      have hput := HS1.out.put HZ5.out id x y
      obtain ⟨E, hE⟩ : ∃ E, E = putE F n id (x, y) := ⟨_, rfl⟩
      have hEv := putE_free HFI.out HN2.out (x, y)
      rw [← hE] at hput hEv
      have HEE := hid (fun (_ : Nat) => hE)
      have HEV := hid hEv
      unfold C at hput
      have HPUT := hid hput
      clear hxs hL hLs hring hos hb1 hput hE hEv HAR HLEN HST HBR HSR HG4 c0 c1 hsl
      go_upto_region 12 with fail
      refine Calls.mono HPUT.out ?_
      rintro _ Y2 ⟨rfl, hb2, hk2, fb, hs2, ho2⟩
      have HG6 := hid (HG5.out.below hb2 HGB.out)
      have HB6 := hid (HB5.out.trans hb2)
      have HZ6 : Hid (B ≤ Y2.heap.size) := Nat.le_trans HZ5.out hb2.size
      have HO6 := hid (HO1.out.kept2 hk2 HAW1.out)
      have HAW6 := hid (HAW1.out.step ho2 HO1.out)
      have HS6 := hid hs2
      clear hb2 hk2 hs2 ho2 HPUT HS1 HO1 HG5 HB5 HZ5 HAW1 d0 d1
      by_cases hm : measC (x, y) = true
      · have hE0 : E = 0 := by have := HEV.out; rw [if_pos hm] at this; exact this
        subst hE0
        have hF2 : putF' F n id (x, y) = insF F id (x, y) := by unfold putF'; rw [← HEE.out 0, if_pos rfl]
        have hN2 : putN F n id (x, y) = n + 1 := by unfold putN offN; rw [← HEE.out 0, if_pos rfl, HFI.out]
        rw [hF2, hN2] at HS6
        clear hF2 hN2 HEE HEV hm
        obtain ⟨G, hG⟩ : ∃ G, G = insF F id (x, y) := ⟨_, rfl⟩
        have hGi : G id = some (x, y) := by rw [hG]; unfold insF; rw [if_pos rfl]
        have hGr : remF G id = F := by rw [hG]; exact remF_ins F id (x, y) HFI.out
        rw [← hG] at HS6
        have hwh : whV G id = .tuple #[.agg #[.int .i64 x, .int .i64 y], .bool true] := by unfold whV; rw [hGi]; rfl
        have h14 := HS6.out.where id
        rw [hwh] at h14
        have H14 := hid h14
        have HGI := hid hGi
        have HGR := hid hGr
        clear hwh h14 hGi hGr hG
        go_upto_region 15 with (go_at_call 14; refine Calls.mono H14.out ?_; rintro _ Y3 ⟨rfl, hb3⟩)
        obtain ⟨Y4, hY4⟩ : ∃ Y4, Y4 = Y3.alloc (.cells #[.int .i64 x, .int .i64 y] 32) := ⟨_, rfl⟩
        obtain ⟨sa, hsa⟩ : ∃ sa, sa = Y3.heap.size := ⟨_, rfl⟩
        have HSA : Hid (Blk Y4 sa [.int .i64 x, .int .i64 y] 32) := by rw [hY4]; exact Blk.new' _ _ _ _ hsa
        have hb4 : Below Y2.heap.size Y2 Y4 := by rw [hY4]; exact hb3.alloc hb3.size _
        rw [← hY4, ← hsa]
        have HG7 := hid (HG6.out.below hb4 HG6.out.lt)
        have HB7 : Hid (Below B W1 Y4) := HB6.out.trans (hb4.mono HZ6.out)
        have HZ7 : Hid (B ≤ Y4.heap.size) := Nat.le_trans HZ6.out hb4.size
        have HO7 := hid (HO6.out.below hb4)
        have HS7 := hid (HS6.out.below hb4)
        have f0 : Y4.cell? ⟨sa, 0, none⟩ = some (.int .i64 x) := HSA.out.cell 0
        have f1 : Y4.cell? ⟨sa, 1, none⟩ = some (.int .i64 y) := HSA.out.cell 1
        have g0 : Y4.cell? ⟨g, 0, none⟩ = some (.int .i64 x) := HG7.out.cell 0
        have g1 : Y4.cell? ⟨g, 1, none⟩ = some (.int .i64 y) := HG7.out.cell 1
        have hse := sameC_self x y
        have hne : ((n : Int) + 1 != (n : Int) + 1) = false := by simp
        have hle := HS7.out.len
        have hcast : (((n + 1 : Nat) : Int)) = (n : Int) + 1 := by omega
        rw [hcast] at hle
        have HLE := hid hle
        have hta := HS7.out.take HZ7.out id
        have hte : takeE G id = 0 := by unfold takeE; rw [HGI.out]; rfl
        have hto : offN G id (n + 1) = n := by unfold offN; rw [HGI.out]; rfl
        rw [hte, hto, HGR.out] at hta
        have HTA := hid hta
        clear hb3 hb4 hY4 hsa HG6 HB6 HZ6 HO6 HS6 H14 hle hta hte hto hcast HSA
        go_wp2_with fail
        refine Calls.mono HLE.out ?_
        rintro _ W9 ⟨rfl, h9⟩
        replace h9 := h9.symm
        subst h9
        go_wp2_with fail
        refine Calls.mono HTA.out ?_
        rintro _ Y5 ⟨rfl, hb5, hk5, fc, hs5, ho5⟩
        have HG8 := hid (HG7.out.below hb5 HGB.out)
        have HB8 := hid (HB7.out.trans hb5)
        have HZ8 : Hid (B ≤ Y5.heap.size) := Nat.le_trans HZ7.out hb5.size
        have HO8 := hid (HO7.out.kept2 hk5 HAW6.out)
        have HAW8 := hid (HAW6.out.step ho5 HO7.out)
        have HS8 := hid hs5
        have hta := hs5.take HZ8.out id
        have hte : takeE F id = 3 := by unfold takeE; rw [HFI.out]; rfl
        have hto : offN F id n = n := by unfold offN; rw [HFI.out]
        rw [hte, hto, remF_none HFI.out] at hta
        have HTA2 := hid hta
        clear hb5 hk5 hs5 ho5 hta hte hto HG7 HB7 HZ7 HO7 HS7 HAW6 HTA HLE f0 f1 g0 g1
        go_wp2_with fail
        refine Calls.mono HTA2.out ?_
        rintro _ Y6 ⟨rfl, hb6, hk6, fd, hs6, ho6⟩
        have HG9 := hid (HG8.out.below hb6 HGB.out)
        have HB9 := hid (HB8.out.trans hb6)
        have HZ9 : Hid (B ≤ Y6.heap.size) := Nat.le_trans HZ8.out hb6.size
        have HO9 := hid (HO8.out.kept2 hk6 HAW8.out)
        have HS9 := hid hs6
        have hwh : whV F id = .tuple #[.agg #[.int .i64 0, .int .i64 0], .bool false] := by unfold whV; rw [HFI.out]; rfl
        have h14 := hs6.where id
        rw [hwh] at h14
        have H14 := hid h14
        clear hb6 hk6 hs6 ho6 hwh h14 HG8 HB8 HZ8 HO8 HS8 HAW8 HTA2
        go_upto_region 18 with (go_at_call 14; refine Calls.mono H14.out ?_; rintro _ Y7 ⟨rfl, hb7⟩)
        have HGa := hid (HG9.out.below hb7 HG9.out.lt)
        have HBa : Hid (Below B W1 Y7) := HB9.out.trans (hb7.mono HZ9.out)
        have HZa : Hid (B ≤ Y7.heap.size) := Nat.le_trans HZ9.out hb7.size
        have HOa := hid (HO9.out.below hb7)
        have HSa := hid (HS9.out.below hb7)
        have g0 : Y7.cell? ⟨g, 0, none⟩ = some (.int .i64 x) := HGa.out.cell 0
        have g1 : Y7.cell? ⟨g, 1, none⟩ = some (.int .i64 y) := HGa.out.cell 1
        have hle := HSa.out.len
        have har := HSa.out.around x y 1073741824
        unfold C at har
        have HLE := hid hle
        have HAR := hid har
        clear hb7 hle har HG9 HB9 HZ9 HO9 HS9 H14
        go_wp2_with fail
        refine Calls.mono HLE.out ?_
        rintro _ W9 ⟨rfl, h9⟩
        replace h9 := h9.symm
        subst h9
        go_wp2_with fail
        refine Calls.mono HAR.out ?_
        rintro _ Y8 ⟨t, hring, htl, pt, ct, rfl, hot, hb8⟩
        have hts : t = s := hring.ext HRG.out
        subst hts
        rw [← HXS.out 0] at hot
        rw [← HXS.out 0]
        rw [← HL.out 0] at hot
        rw [← HL.out 0]
        have HBb : Hid (Below B W1 Y8) := HBa.out.trans (hb8.mono HZa.out)
        have hsame := sameInts_any xs ps pt L cs ct Y8 (HOa.out.below hb8).ints hot.ints HLS.out
        have HZb : Hid (B ≤ Y8.heap.size) := Nat.le_trans HZa.out hb8.size
        have HSAME := hid hsame
        clear hring htl hot hb8 hsame HOa HSa HGa HBa HZa HLE HAR g0 g1 HRG HXS
        go_wp2_with fail
        refine Calls.mono HSAME.out ?_
        rintro _ Y9 ⟨rfl, hb9⟩
        have HBc := hid (HBb.out.trans (hb9.mono HZb.out))
        clear hb9 HSAME
        go_wp2
        go_ret
        exact ⟨rfl, HB1.out.trans (HBc.out.mono HWB.out)⟩
      · have hE2 : E = 2 := by have := HEV.out; rw [if_neg hm] at this; exact this
        subst hE2
        have hF2 : putF' F n id (x, y) = F := by unfold putF'; rw [← HEE.out 0, if_neg (by decide)]
        have hN2 : putN F n id (x, y) = n := by unfold putN; rw [← HEE.out 0, if_neg (by decide)]
        rw [hF2, hN2] at HS6
        have hta := HS6.out.take HZ6.out id
        have hte : takeE F id = 3 := by unfold takeE; rw [HFI.out]; rfl
        rw [hte] at hta
        have HTA := hid hta
        clear hF2 hN2 HEE HEV hm hta hte
        go_wp2_with fail
        refine Calls.mono HTA.out ?_
        rintro _ Y3 ⟨rfl, hb3, _⟩
        have HB7 := hid (HB6.out.trans hb3)
        clear hb3 HTA
        go_wp2
        go_ret
        exact ⟨rfl, HB1.out.trans (HB7.out.mono HWB.out)⟩
end Go.Proofs.Ytnilgnnlobiojaa
