/- The law CellsPlays, walked. -/
import Derived.Test.YtnilgnnlobiojaaStep
import Derived.Test.YtnilgnnlobiojaaForkr
import Derived.Test.YtnilgnnlobiojaaRowKit
namespace Go.Proofs.Ytnilgnnlobiojaa
open Go.RowKit
set_option maxRecDepth 200000 in
set_option maxHeartbeats 16000000 in
theorem plays_walk (os : List Opn) (p : Option Addr) (M cap : Nat) (w : World) (hM : M = os.length) (hI : RowAt encO 5 w (.slice p M cap) os) :
    Calls Try.prog 3 #[.slice p M cap] w fun e w' => Out w (.bool true) e w' := by
  have HAW := hid awake_any
  have HI := hid hI
  clear hI
  unfold Out at *
  by_cases hbig : 200 < M
  · have hb1 : (200 : Int) < (M : Int) := by omega
    clear hM
    go_enter Try.func3, Try.ntmps3
    go_wp2_with fail
    refine Calls.mono (HAW.out _) ?_
    rintro _ W1 ⟨rfl, hb1⟩
    have HB1 := hid hb1
    clear hb1
    go_wp2_with fail
    refine Calls.mono (HAW.out _) ?_
    rintro _ W2 ⟨rfl, hb2⟩
    have HB2 := hid (HB1.out.trans (hb2.mono HB1.out.size))
    clear hb2
    go_wp2
    go_ret
    exact ⟨rfl, HB2.out⟩
  have hb1 : ((200 : Int) < (M : Int)) = False := by simp; omega
  have hM6 : (M : Int) ≤ 1000000 := by omega
  have HM200 : Hid (M ≤ 200) := hid (by omega)
  have HMO := hid (fun (_ : Nat) => hM)
  clear hM hbig
  go_enter Try.func3, Try.ntmps3
  go_wp2_with fail
  refine Calls.mono (HAW.out _) ?_
  rintro _ W1 ⟨rfl, hb1⟩
  have HB1 := hid hb1
  clear hb1 HAW
  obtain ⟨B, hB⟩ : ∃ B, B = W1.heap.size := ⟨_, rfl⟩
  obtain ⟨Z, hZ⟩ : ∃ Z, Z = W1.alloc (.cells #[.map none, .map none] 55) := ⟨_, rfl⟩
  have hnew := new_any W1
  rw [← hB, ← hZ] at hnew
  have hst : St Z B B (fun _ => none) (fun _ => none) 0 := by rw [hZ, hB]; exact St.new W1
  have hbz : Below B W1 Z := by rw [hZ, hB]; exact (Below.refl _ _).alloc (Nat.le_refl _) _
  have hzs : Z.heap.size = B + 1 := by rw [hZ, hB]; simp
  obtain ⟨bw, hbw⟩ : ∃ bw, bw = Z.heap.size := ⟨_, rfl⟩
  obtain ⟨V, hV⟩ : ∃ V, V = Z.alloc (.cells #[.slice none 0 0] 29) := ⟨_, rfl⟩
  have hvz : Below Z.heap.size Z V := by rw [hV]; exact (Below.refl _ _).alloc (Nat.le_refl _) _
  have hsx : Sx V B bw B (fun _ => none) 0 := by
    refine ⟨fun _ => none, [], hst.below hvz, ⟨none, 0, 0, rfl, by rw [hV]; exact Blk.new' _ _ _ _ hbw, OwnR.nil _ _ _ _ _, by omega⟩, Rep.empty, rfl⟩
  have HNEW := hid hnew
  have HSX := hid hsx
  have HSZ : Hid (B ≤ V.heap.size) := Nat.le_trans (by omega) hvz.size
  have HBZ : Hid (Below B W1 V) := hbz.trans (hvz.mono (by omega))
  have HWB : Hid (w.heap.size ≤ B) := by rw [hB]; exact HB1.out.size
  have HIB : Hid (RowAt encO 5 W1 (.slice p M cap) os) := HI.out.below HB1.out
  have HBE := hid (fun (_ : Nat) => hB)
  have HVE := hid (fun (_ : Nat) => hV)
  have HBW := hid (fun (_ : Nat) => hbw)
  clear hnew hst hbz hB hZ HI hzs hbw hV hvz hsx
  go_upto_region 4 with fail
  refine Calls.mono HNEW.out ?_
  rintro _ W2 ⟨rfl, h2⟩
  subst h2
  clear HNEW
  go_upto_region 5 with fail
  rw [← HVE.out 0, ← HBW.out 0]
  clear HVE HBW
  go_wp2_with fail
  go_loopw [5] (fun iv wr => ∃ (i : Nat) (F : Int → Option Cl) (n : Nat), iv = .int .i64 (i : Int) ∧ i ≤ M ∧ Hid (Sx wr B bw B F n) ∧ Hid (n ≤ i) ∧ Hid (Below B W1 wr) ∧ Hid (B ≤ wr.heap.size)) (fun iv _ => M - (intOf iv).toNat)
  case atStart => exact ⟨0, _, 0, rfl, Nat.zero_le _, HSX, Nat.le_refl _, HBZ, HSZ⟩
  case round =>
    clear HSX HBZ HSZ
    obtain ⟨i, F, n, rfl, hi, HSX, HNI, HBR, HSR⟩ := hrel
    by_cases hlt : i < M
    · have hl' : (i : Int) < (M : Int) := by omega
      have hbr : Below W1.heap.size W1 wr := by rw [← HBE.out 0]; exact HBR.out
      obtain ⟨hx, sb, so, hps, hsb, hcell⟩ := RowAt.pos layO (HIB.out.below hbr) i hlt
      obtain ⟨o, ho⟩ : ∃ o, os[i] = o := ⟨_, rfl⟩
      obtain ⟨ok, oi, orr, ox, oy⟩ := o
      have e0 : wr.cell? ⟨sb, so + i * 5, none⟩ = some (.int .i64 ok) := by have := hcell 0 (.int .i64 ok) (by rw [ho]; rfl); exact this
      have e2 : wr.cell? ⟨sb, so + i * 5 + 2, none⟩ = some (.int .i64 orr) := hcell 2 (.int .i64 orr) (by rw [ho]; rfl)
      have e1 : wr.cell? ⟨sb, so + i * 5 + 1, none⟩ = some (.int .i64 oi) := hcell 1 (.int .i64 oi) (by rw [ho]; rfl)
      have e3 : wr.cell? ⟨sb, so + i * 5 + 3, none⟩ = some (.int .i64 ox) := hcell 3 (.int .i64 ox) (by rw [ho]; rfl)
      have e4 : wr.cell? ⟨sb, so + i * 5 + 4, none⟩ = some (.int .i64 oy) := hcell 4 (.int .i64 oy) (by rw [ho]; rfl)
      subst hps
      clear hbr hcell ho
      have hstep := step_any B bw B n F ok oi orr ox oy wr.drew (HSX.out.below (Below.drewN (Below.refl _ _) 1)) (by have := HNI.out; have := HM200.out; omega) HSR.out
      have HSTEP := hid hstep
      clear hstep
      go_upto_region 8 with fail
      refine wp_region_split [.take 0, .take 1, .take 2, .take 3, .take 4, .turn 5, .turn 6, .take 7, .take 8, .take 9, .take 11, .take 12, .take 13] 10 14 [.turn 14, .take 15, .take 16, .take 17] [.take 15, .turn 10, .take 16, .take 17] (by kernel_rfl) (by kernel_rfl) rfl rfl (by kernel_rfl) ?_
      iterate 5 (refine split_take rfl (fun K hK => ?_); go_simp; first | refine hK _ ?_ | refine ⟨_, fun _ => rfl, hK _ ?_⟩; clear hK K)
      refine split_turn rfl (fun K hK => ?_)
      go_simp
      refine hK _ _ ?_
      clear hK K
      refine split_turn rfl (fun K hK => ?_)
      go_simp
      refine Calls.mono HSTEP.out ?_
      rintro _ Y ⟨rfl, hby, F', n', hsx, hn'⟩
      have HBY : Hid (Below B W1 Y) := (Below.drewN HBR.out 1).trans hby
      have HSY : Hid (B ≤ Y.heap.size) := Nat.le_trans HSR.out hby.size
      have HSXY := hid hsx
      have HNY : Hid (n' ≤ i + 1) := hid (by have := HNI.out; omega)
      obtain ⟨fb, R, hs, ⟨pr, nr, cr, hl, hblk, _⟩, _, hRl⟩ := hsx
      have hnr : nr = n' := hl.trans hRl
      subst hnr
      have HLE := hid hs.len
      have yb : Y.cell? ⟨bw, 0, none⟩ = some (.slice pr nr cr) := hblk.cell 0
      clear hby hs hblk hRl hn' hl e0 e1 e2 e3 e4 HSTEP hsb
      refine hK _ _ ?_
      clear hK K
      iterate 6 (refine split_take rfl (fun K hK => ?_); go_simp; first | refine hK _ ?_ | refine ⟨_, fun _ => rfl, hK _ ?_⟩; clear hK K)
      refine split_both ?A ?B
      case' A =>
        refine forkR_turn rfl (fun K hK => ?_)
        go_simp
        refine Calls.mono HLE.out ?_
        rintro _ Y9 ⟨rfl, h9⟩
        replace h9 := h9.symm
        subst h9
        refine hK _ _ ?_
        clear hK K
        refine forkR_turn rfl (fun K hK => ?_)
        go_simp
        refine hK _ _ ?_
        clear hK K
        refine forkR_take rfl (fun K hK => ?_)
        go_simp
        first | refine hK _ ?_ | refine ⟨_, fun _ => rfl, hK _ ?_⟩
        clear hK K
      case' B =>
        refine forkR_turn rfl (fun K hK => ?_)
        go_simp
        refine hK _ _ ?_
        clear hK K
        refine forkR_take rfl (fun K hK => ?_)
        go_simp
        first | refine hK _ ?_ | refine ⟨_, fun _ => rfl, hK _ ?_⟩
        clear hK K
        refine forkR_turn rfl (fun K hK => ?_)
        go_simp
        refine Calls.mono HLE.out ?_
        rintro _ Y9 ⟨rfl, h9⟩
        replace h9 := h9.symm
        subst h9
        refine hK _ _ ?_
        clear hK K
      all_goals
        iterate 2 (refine forkR_take rfl (fun K hK => ?_); go_simp; first | refine hK _ ?_ | refine ⟨_, fun _ => rfl, hK _ ?_⟩; clear hK K)
        refine forkR_done ⟨rfl, ?_⟩
        go_wp2
        go_roundw
        case rel => exact ⟨i + 1, F', nr, by simp, by omega, HSXY, HNY, HBY, HSY⟩
        case measure => simp [intOf]; omega
    · obtain rfl : i = M := by omega
      have hl' : ((i : Int) < (i : Int)) = False := by simp
      go_wp2
      go_ret
      exact ⟨rfl, HB1.out.trans (HBR.out.mono HWB.out)⟩
end Go.Proofs.Ytnilgnnlobiojaa
