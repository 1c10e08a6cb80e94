/- Closest 19. -/
import Derived.Test.YtnilgnnlobiojaaClose
namespace Go.Proofs.Ytnilgnnlobiojaa
open Go.RowKit
set_option maxRecDepth 20000 in
set_option maxHeartbeats 8000000 in
theorem closest_any (b base n : Nat) (fa : Cl → Option Value) (F : Int → Option Cl) (x y r but : Int) (w : World) (h : St w b base fa F n) :
    Calls Try.prog 19 #[.pointer (some ⟨b, 0, none⟩), C x y, .int .i64 r, .int .i64 but] w fun e w' => OutCl F x y r but w e w' := by
  obtain ⟨A, hj, hok, hn⟩ := h
  obtain ⟨g, hg⟩ : ∃ g, g = w.heap.size := ⟨_, rfl⟩
  obtain ⟨gb, hgb⟩ : ∃ gb, gb = g + 1 := ⟨_, rfl⟩
  obtain ⟨W, hW⟩ : ∃ W, W = (w.alloc (.cells #[.int .i64 x, .int .i64 y] 32)).alloc (.cells #[.int .i64 0, .int .i64 0] 64) := ⟨_, rfl⟩
  have hB : Below w.heap.size w W := by rw [hW]; exact ((Below.refl _ _).alloc (Nat.le_refl _) _).alloc (by simp) _
  have hG : Blk W g [.int .i64 x, .int .i64 y] 32 := by rw [hW]; exact (Blk.new' _ _ _ _ hg).alloc _
  have hGB : Blk W gb [.int .i64 0, .int .i64 0] 64 := by rw [hW]; exact Blk.new' _ _ _ _ (by rw [hgb, hg]; simp)
  have hwi := within_any b base n A F x y r W (hj.below hB).ix hok hn
  have c0 : W.cell? ⟨g, 0, none⟩ = some (.int .i64 x) := hG.cell 0
  have c1 : W.cell? ⟨g, 1, none⟩ = some (.int .i64 y) := hG.cell 1
  have HB := hid hB
  have HGB := hid hGB
  have HGW : Hid (w.heap.size ≤ gb) := hid (by omega)
  have HCM := hid compare_any
  unfold C at *
  have HWI := hid hwi
  obtain ⟨Q, hQ⟩ : ∃ Q, Q = OutCl F x y r but w := ⟨_, rfl⟩
  have HQ := hid (fun (_ : Nat) => hQ)
  rw [← hQ]
  clear hQ hB hG hGB hwi hj hok
  have HN := hid hn
  clear hn
  go_enter Try.func19, Try.ntmps19
  go_upto_region 3 with fail
  rw [← hW, ← hg, ← hgb]
  clear hW hg hgb
  go_upto_region 4 with fail
  refine Calls.mono HWI.out ?_
  rintro _ W1 ⟨l, p, cap, rfl, ho, hnd, hmem, hlen, hb1⟩
  obtain ⟨m, hm⟩ : ∃ m, m = l.length := ⟨_, rfl⟩
  obtain ⟨S0, hS0⟩ : ∃ S0, S0 = W.heap.size := ⟨_, rfl⟩
  rw [← hm, ← hS0] at ho
  rw [← hm]
  have HM := hid (fun (_ : Nat) => hm)
  have hm6 : (m : Int) ≤ 4096 := by have := HN.out; omega
  have HME := hid hmem
  have HO1 := hid ho
  have HG1 : Hid (Blk W1 gb [.int .i64 0, .int .i64 0] 64) := HGB.out.below hb1 HGB.out.lt
  have HGS : Hid (gb < S0) := by rw [hS0]; exact HGB.out.lt
  have HB1 := hid (HB.out.trans (hb1.mono HB.out.size))
  have HBS : Hid (Best (l.take 0) but false (0, 0)) := Or.inl ⟨rfl, rfl, fun t ht => by simp at ht⟩
  clear hnd hmem hlen hm ho hb1 HWI c0 c1 hS0 HB HGB
  go_upto_region 4 with fail
  go_wp2_with fail
  go_loopw [11, 19] (fun tv iv wr => ∃ (i : Nat) (th : Bool) (q0 q1 : Int), iv = .int .i64 (i : Int) ∧ tv = .bool th ∧ i ≤ m ∧ Hid (Blk wr gb [.int .i64 q0, .int .i64 q1] 64) ∧ Hid (OwnR encFd 64 2 wr S0 (.slice p m cap) l) ∧ Hid (Best (l.take i) but th (q0, q1)) ∧ Hid (Below w.heap.size w wr)) (fun _ iv _ => m - (intOf iv).toNat)
  case atStart => exact ⟨0, false, 0, 0, rfl, rfl, Nat.zero_le _, HG1, HO1, HBS, HB1⟩
  case round =>
    clear HG1 HO1 HBS HB1
    obtain ⟨i, th, q0, q1, rfl, rfl, hi, HGB, HO, HBE, HB⟩ := hrel
    by_cases hlt : i < m
    · have hl' : (i : Int) < (m : Int) := by omega
      obtain ⟨hx, sb, so, hps, hsb, hcell⟩ := RowAt.pos layFd (HO.out.row layFd) i hlt
      obtain ⟨z0, z1, hq⟩ : ∃ z0 z1, l[i] = (z0, z1) := ⟨_, _, rfl⟩
      have e0 : wr.cell? ⟨sb, so + i * 2, none⟩ = some (.int .i64 z0) := by have := hcell 0 (.int .i64 z0) (by rw [hq]; rfl); exact this
      have e1 : wr.cell? ⟨sb, so + i * 2 + 1, none⟩ = some (.int .i64 z1) := hcell 1 _ (by rw [hq]; rfl)
      have htk : l.take (i + 1) = l.take i ++ [(z0, z1)] := by rw [List.take_succ_eq_append_getElem hx, hq]
      have HTK := hid htk
      subst hps
      obtain ⟨V, hV⟩ : ∃ V, V = wr.alloc (.cells #[.int .i64 z0, .int .i64 z1] 64) := ⟨_, rfl⟩
      obtain ⟨gf, hgf⟩ : ∃ gf, gf = wr.heap.size := ⟨_, rfl⟩
      have hvb : Below wr.heap.size wr V := by rw [hV]; exact (Below.refl _ _).alloc (Nat.le_refl _) _
      have HFV : Hid (Blk V gf [.int .i64 z0, .int .i64 z1] 64) := by rw [hV]; exact Blk.new' _ _ _ _ hgf
      have HGV := hid (HGB.out.below hvb HGB.out.lt)
      have HOV := hid (HO.out.below hvb)
      have HBV := hid (HB.out.trans (hvb.mono HB.out.size))
      have HVE := hid (fun (_ : Nat) => hV)
      have HFE := hid (fun (_ : Nat) => hgf)
      clear hcell hq htk hV hgf hvb HGB HO HB hsb
      go_upto_region 6 with fail
      rw [← HVE.out 0, ← HFE.out 0]
      clear HVE HFE e0 e1
      have v0 : V.cell? ⟨gf, 0, none⟩ = some (.int .i64 z0) := HFV.out.cell 0
      have v1 : V.cell? ⟨gf, 1, none⟩ = some (.int .i64 z1) := HFV.out.cell 1
      by_cases hzb : z0 = but
      · have hne : (z0 != but) = false := by simp [hzb]
        have HBN := hid (HBE.out.skip (f := (z0, z1)) hzb)
        clear hzb
        go_wp2
        go_roundw
        case rel => exact ⟨i + 1, th, q0, q1, by simp, rfl, by omega, HGV, HOV, by rw [HTK.out]; exact HBN, HBV⟩
        case measure => simp [intOf]; omega
      · have hne : (z0 != but) = true := by simpa using hzb
        have HZB := hid hzb
        clear hzb
        cases th with
        | false =>
          have HBT := hid (HBE.out.take (f := (z0, z1)) HZB.out (Or.inl rfl))
          obtain ⟨D, hD⟩ : ∃ D, D = V := ⟨_, rfl⟩
          rw [← hD]
          rw [← hD] at HFV HGV HBV HOV v0 v1
          have HFD := HFV
          have HGD := HGV
          have HBD := HBV
          have HOD := HOV
          clear hD v0 v1 HFV HGV HBV HOV
          have x0 : D.cell? ⟨gf, 0, none⟩ = some (.int .i64 z0) := HFD.out.cell 0
          have x1 : D.cell? ⟨gf, 1, none⟩ = some (.int .i64 z1) := HFD.out.cell 1
          have q0' : D.cell? ⟨gb, 0, none⟩ = some (.int .i64 q0) := HGD.out.cell 0
          have y0 : D.frozen? ⟨gb, 0, none⟩ = false := HGD.out.frozen 0
          have q1' : (D.setCell ⟨gb, 0, none⟩ (.int .i64 z0)).cell? ⟨gb, 1, none⟩ = some (.int .i64 q1) := (HGD.out.set 0 _).cell 1
          have y1 : (D.setCell ⟨gb, 0, none⟩ (.int .i64 z0)).frozen? ⟨gb, 1, none⟩ = false := (HGD.out.set 0 _).frozen 1
          obtain ⟨E, hE⟩ : ∃ E, E = (D.setCell ⟨gb, 0, none⟩ (.int .i64 z0)).setCell ⟨gb, 1, none⟩ (.int .i64 z1) := ⟨_, rfl⟩
          have HGE2 : Hid (Blk E gb [.int .i64 z0, .int .i64 z1] 64) := by rw [hE]; exact (HGD.out.set 0 _).set 1 _
          have HBE2 : Hid (Below w.heap.size w E) := by rw [hE]; exact (HBD.out.setCell HGW.out _).setCell HGW.out _
          have HOE2 : Hid (OwnR encFd 64 2 E S0 (.slice (some ⟨sb, so, none⟩) m cap) l) := by
            refine HOD.out.stay fun k hk => ?_
            have h1 := (HOD.out.block k hk).1
            have h2 := HGS.out
            rw [hE, Below.heap_setCell _ _ _ _ (by show k ≠ gb; omega), Below.heap_setCell _ _ _ _ (by show k ≠ gb; omega)]
          have HEE := hid (fun (_ : Nat) => hE)
          clear hE HFD HGD HBD HOD
          go_wp2
          rw [← HEE.out 0]
          go_roundw
          case rel => exact ⟨i + 1, true, z0, z1, by simp, rfl, by omega, HGE2, HOE2, by rw [HTK.out]; exact HBT, HBE2⟩
          case measure => simp [intOf]; omega
        | true =>
          have v2 : V.cell? ⟨gb, 0, none⟩ = some (.int .i64 q0) := HGV.out.cell 0
          have v3 : V.cell? ⟨gb, 1, none⟩ = some (.int .i64 q1) := HGV.out.cell 1
          have hcm := HCM.out (z0, z1) (q0, q1) V
          obtain ⟨cv, hcv⟩ : ∃ cv, cv = cmpV (z0, z1) (q0, q1) := ⟨_, rfl⟩
          rw [← hcv] at hcm
          have hlt2 : decide (cv < 0) = ltF (z0, z1) (q0, q1) := by rw [hcv]; exact ltOf_cmp _ _
          have HCV := hid hcm
          have HLT := hid hlt2
          clear hcm hcv hlt2
          go_wp2_with fail
          refine Calls.mono HCV.out ?_
          rintro _ D ⟨rfl, hgr⟩
          have hbd := hgr.below
          have HFD := hid (HFV.out.below hbd HFV.out.lt)
          have HGD := hid (HGV.out.below hbd HGV.out.lt)
          have HBD := hid (HBV.out.trans (hbd.mono HBV.out.size))
          have HOD := hid (HOV.out.below hbd)
          clear hgr hbd v0 v1 v2 v3 HFV HGV HBV HOV HCV
          by_cases hcv : cv < 0
          · have HBT := hid (HBE.out.take (f := (z0, z1)) HZB.out (Or.inr (by rw [← HLT.out]; exact decide_eq_true hcv)))
            have x0 : D.cell? ⟨gf, 0, none⟩ = some (.int .i64 z0) := HFD.out.cell 0
            have x1 : D.cell? ⟨gf, 1, none⟩ = some (.int .i64 z1) := HFD.out.cell 1
            have q0' : D.cell? ⟨gb, 0, none⟩ = some (.int .i64 q0) := HGD.out.cell 0
            have y0 : D.frozen? ⟨gb, 0, none⟩ = false := HGD.out.frozen 0
            have q1' : (D.setCell ⟨gb, 0, none⟩ (.int .i64 z0)).cell? ⟨gb, 1, none⟩ = some (.int .i64 q1) := (HGD.out.set 0 _).cell 1
            have y1 : (D.setCell ⟨gb, 0, none⟩ (.int .i64 z0)).frozen? ⟨gb, 1, none⟩ = false := (HGD.out.set 0 _).frozen 1
            obtain ⟨E, hE⟩ : ∃ E, E = (D.setCell ⟨gb, 0, none⟩ (.int .i64 z0)).setCell ⟨gb, 1, none⟩ (.int .i64 z1) := ⟨_, rfl⟩
            have HGE2 : Hid (Blk E gb [.int .i64 z0, .int .i64 z1] 64) := by rw [hE]; exact (HGD.out.set 0 _).set 1 _
            have HBE2 : Hid (Below w.heap.size w E) := by rw [hE]; exact (HBD.out.setCell HGW.out _).setCell HGW.out _
            have HOE2 : Hid (OwnR encFd 64 2 E S0 (.slice (some ⟨sb, so, none⟩) m cap) l) := by
              refine HOD.out.stay fun k hk => ?_
              have h1 := (HOD.out.block k hk).1
              have h2 := HGS.out
              rw [hE, Below.heap_setCell _ _ _ _ (by show k ≠ gb; omega), Below.heap_setCell _ _ _ _ (by show k ≠ gb; omega)]
            have HEE := hid (fun (_ : Nat) => hE)
            clear hE HFD HGD HBD HOD
            go_wp2
            rw [← HEE.out 0]
            go_roundw
            case rel => exact ⟨i + 1, true, z0, z1, by simp, rfl, by omega, HGE2, HOE2, by rw [HTK.out]; exact HBT, HBE2⟩
            case measure => simp [intOf]; omega
          · have hcf : (cv < 0) = False := by simp; omega
            have HBN := hid (HBE.out.stay (f := (z0, z1)) (by rw [← HLT.out]; exact decide_eq_false hcv))
            clear hcv
            go_wp2
            go_roundw
            case rel => exact ⟨i + 1, true, q0, q1, by simp, rfl, by omega, HGD, HOD, by rw [HTK.out]; exact HBN, HBD⟩
            case measure => simp [intOf]; omega
    · obtain rfl : i = m := by omega
      have hl' : ((i : Int) < (i : Int)) = False := by simp
      have v2 : wr.cell? ⟨gb, 0, none⟩ = some (.int .i64 q0) := HGB.out.cell 0
      go_wp2
      rw [HQ.out 0]
      refine ⟨HB.out, q0, th, rfl, ?_⟩
      have hbe := HBE.out
      rw [HM.out 0, List.take_length] at hbe
      rcases hbe with ⟨h1, h2, h3⟩ | ⟨h1, h2, h3, h4⟩
      · refine Or.inl ⟨fun q hq => h3 q ((HME.out q).2 hq), ?_, h1⟩
        cases h2; rfl
      · exact Or.inr ⟨(q0, q1), (HME.out _).1 h2, h3, fun t ht hne => h4 t ((HME.out t).2 ht) hne, rfl, h1⟩
end Go.Proofs.Ytnilgnnlobiojaa
