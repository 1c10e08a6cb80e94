/- The walk of the law RosterPlays. -/
import Derived.Test.YtdagkeklfhlcnaaStepB
import Derived.Test.YtdagkeklfhlcnaaStepC
import Derived.Test.YtdagkeklfhlcnaaStepD
import Derived.Test.YtdagkeklfhlcnaaFork
import Derived.Test.YtdagkeklfhlcnaaNeverWalk
namespace Go.Proofs.Ytdagkeklfhlcnaa
open Go.RowKit
theorem step_any (g r : Nat) (l : List (List Int)) (past k id : Int) (z0 z1 z2 z3 z4 z5 z6 z7 z8 z9 z10 : Int) (w : World) (hT : Tb w g l past) (hR : Rf w r l (past + 1)) (hgr : g < r) (hp : 0 ≤ past ∧ past < 1000) : Calls Try.prog 10 #[P g, P r, .agg #[.int .i64 k, .int .i64 id, .int .i64 z0, .int .i64 z1, .int .i64 z2, .int .i64 z3, .int .i64 z4, .int .i64 z5, .int .i64 z6, .int .i64 z7, .int .i64 z8, .int .i64 z9, .int .i64 z10]] w fun e w' => OutStep w g r past e w' := by
  have hn := hT.few
  by_cases h1 : k = 1
  · subst h1
    by_cases hl : l.length = 40
    · exact step1_full g r l past id z0 z1 z2 z3 z4 z5 z6 z7 z8 z9 z10 w hT hR hgr hp hl
    · exact step1 g r l past id z0 z1 z2 z3 z4 z5 z6 z7 z8 z9 z10 w hT hR hgr hp (by omega)
  by_cases h2 : k = 2
  · subst h2
    rcases fnd_cases l id 0 with ⟨hf, -⟩ | ⟨i, hi, hf⟩
    · exact step2_none g r l past id z0 z1 z2 z3 z4 z5 z6 z7 z8 z9 z10 w hT hR hgr hp hf
    · exact step2 g r l past id z0 z1 z2 z3 z4 z5 z6 z7 z8 z9 z10 w hT hR hgr hp i (by rw [hf]; simp) hi
  by_cases h3 : k = 3
  · subst h3
    rcases fnd_cases l z0 0 with ⟨hf, -⟩ | ⟨i, hi, hf⟩
    · exact step3_none g r l past id z0 z1 z2 z3 z4 z5 z6 z7 z8 z9 z10 w hT hR hgr hp hf
    · exact step3 g r l past id z0 z1 z2 z3 z4 z5 z6 z7 z8 z9 z10 w hT hR hgr hp i (by rw [hf]; simp) hi
  by_cases h4 : k = 4
  · subst h4
    rcases fnd_cases l id 0 with ⟨hf, -⟩ | ⟨i, hi, hf⟩
    · exact step4_none g r l past id z0 z1 z2 z3 z4 z5 z6 z7 z8 z9 z10 w hT hR hgr hp hf
    · exact step4 g r l past id z0 z1 z2 z3 z4 z5 z6 z7 z8 z9 z10 w hT hR hgr hp i (by rw [hf]; simp) hi
  by_cases h5 : k = 5
  · subst h5; exact step5 g r l past id z0 z1 z2 z3 z4 z5 z6 z7 z8 z9 z10 w hT hR hgr hp
  by_cases h6 : k = 6
  · subst h6; exact step6 g r l past id z0 z1 z2 z3 z4 z5 z6 z7 z8 z9 z10 w hT hR hgr hp
  exact step0 g r l past k id z0 z1 z2 z3 z4 z5 z6 z7 z8 z9 z10 w hT hR hgr hp h1 h2 h3 h4 h5 h6
/-- v is a slice of calls, each of thirteen numbers. -/
def OpsAt (w : World) (v : Value) (os : List (List Int)) : Prop :=
  ∃ p cap, v = .slice p os.length cap ∧ (os ≠ [] → ∃ sb so, p = some ⟨sb, so, none⟩ ∧ ∀ i, i < os.length → ∀ j, j < 13 → w.cell? ⟨sb, so + i * 13 + j, none⟩ = some (.int .i64 ((os.getD i []).getD j 0)))
set_option maxHeartbeats 2000000 in
theorem plays_many (p : Option Addr) (M cap : Nat) (w : World) (h : 500 < M) : Calls Try.prog 3 #[.slice p M cap] w fun e w' => OutT w e w' := by
  have h7 : Hid (∀ W, Calls Try.prog 7 #[] W fun r w' => Out W (.bool true) r w') := awake_any
  have h' : (500 : Int) < (M : Int) := by omega
  unfold OutT
  unfold Out at h7
  go_enter Try.func3, Try.ntmps3
  go_wp2_with fail
  refine Calls.mono (h7.out _) ?_
  rintro e w1 ⟨rfl, hb1⟩
  have HB1 := hid hb1
  clear hb1
  go_wp2_with fail
  refine Calls.mono (h7.out _) ?_
  rintro e w2 ⟨rfl, hb2⟩
  have HB2 := hid (HB1.out.trans (hb2.mono HB1.out.size))
  clear hb2
  go_wp2
  go_ret
  exact ⟨rfl, HB2.out⟩
set_option maxRecDepth 100000 in
set_option maxHeartbeats 16000000 in
theorem plays_walk (os : List (List Int)) (p : Option Addr) (M cap : Nat) (w : World) (hM : M = os.length) (hB : OpsAt w (.slice p M cap) os) (h : M ≤ 500) : Calls Try.prog 3 #[.slice p M cap] w fun e w' => OutT w e w' := by
  have h7 : Hid (∀ W, Calls Try.prog 7 #[] W fun r w' => Out W (.bool true) r w') := awake_any
  have h8 := hid new_any
  have h9 := hid rnew_any
  have h10 : Hid (∀ (g r : Nat) (l : List (List Int)) (past k id : Int) (z0 z1 z2 z3 z4 z5 z6 z7 z8 z9 z10 : Int) (W : World), Tb W g l past → Rf W r l (past + 1) → g < r → 0 ≤ past ∧ past < 1000 → Calls Try.prog 10 #[P g, P r, .agg #[.int .i64 k, .int .i64 id, .int .i64 z0, .int .i64 z1, .int .i64 z2, .int .i64 z3, .int .i64 z4, .int .i64 z5, .int .i64 z6, .int .i64 z7, .int .i64 z8, .int .i64 z9, .int .i64 z10]] W fun e w' => OutStep W g r past e w') := step_any
  have h13 : Hid (∀ b l past W, Tb W b l past → Calls Try.prog 13 #[P b] W fun r w' => OutList W l r w') := fun b l past W h => list_any b l past W h
  have h11 : Hid (∀ b l (past : Int) W, Tb W b l past → 0 ≤ past ∧ past < 2147483646 → Calls Try.prog 11 #[P b] W fun r w' => r = .returned (.int .i64 (past + 1)) ∧ w' = W) := fun b l past W h hp => by
    have := next_any b l past W h
    rwa [wrap_in _ (by omega)] at this
  have h12 : Hid (∀ (l : List (List Int)) (b b' : Nat) (p q : Option Addr) (N c c' : Nat) (W : World), OwnE W b (.slice p N c) l → OwnE W b' (.slice q N c') l → N ≤ 1000000 → Calls Try.prog 12 #[.slice p N c, .slice q N c'] W fun e w' => Out W (.bool true) e w') := same_any
  have HB := hid hB
  have HM := hid (fun (_ : Nat) => hM)
  have h' : ((500 : Int) < (M : Int)) = False := by simp; omega
  clear hB hM
  unfold OutT
  unfold Out OutList OutStep P at *
  go_enter Try.func3, Try.ntmps3
  go_wp2_with fail
  refine Calls.mono (h7.out _) ?_
  rintro e w1 ⟨rfl, hb1⟩
  have HB1 := hid hb1
  clear hb1
  go_wp2_with fail
  refine Calls.mono (h8.out _) ?_
  rintro e w2 ⟨rfl, ht2, hb2⟩
  obtain ⟨g, hg⟩ : ∃ g, w1.heap.size = g := ⟨_, rfl⟩
  have HG : Hid (w.heap.size ≤ g) := by rw [← hg]; exact HB1.out.size
  rw [hg] at ht2 ⊢
  have HT2 := hid ht2
  have HB2 := hid (HB1.out.trans (hb2.mono HB1.out.size))
  clear ht2 hb2 hg HB1
  go_wp2_with fail
  refine Calls.mono (h9.out _) ?_
  rintro e w3 ⟨rfl, hr3, hb3⟩
  obtain ⟨r, hr⟩ : ∃ r, w2.heap.size = r := ⟨_, rfl⟩
  have HGR : Hid (g < r) := by rw [← hr]; exact HT2.out.lt
  rw [hr] at hr3 ⊢
  have HR3 := hid hr3
  have HT3 := hid (HT2.out.below hb3 HT2.out.lt)
  have HB3 := hid (HB2.out.trans (hb3.mono HB2.out.size))
  clear hr3 hb3 hr HB2 HT2
  go_wp2_with fail
  go_loopw [5] (fun iv wr => ∃ (i : Nat) (l : List (List Int)) (past : Int), i ≤ M ∧ 0 ≤ past ∧ past ≤ (i : Int) ∧ iv = .int .i64 (i : Int) ∧ Hid (Tb wr g l past) ∧ Hid (Rf wr r l (past + 1)) ∧ Hid (Below w.heap.size w wr)) (fun iv _ => M - (intOf iv).toNat)
  case atStart => exact ⟨0, [], 0, by omega, by omega, by omega, rfl, HT3, HR3, HB3⟩
  case round =>
    clear HT3 HR3 HB3
    obtain ⟨i, l, past, hi, hp0, hp1, rfl, HT, HR, HBW⟩ := hrel
    by_cases hl : i < M
    · have hl' : (i : Int) < (M : Int) := by omega
      have hl0 : (0 : Int) ≤ (i : Int) := by omega
      obtain ⟨sb, so, rfl, hcb⟩ : ∃ sb so, p = some ⟨sb, so, none⟩ ∧ ∀ W', Below w.heap.size w W' → ∀ j, j < 13 → W'.cell? ⟨sb, so + i * 13 + j, none⟩ = some (.int .i64 ((os.getD i []).getD j 0)) := by
        obtain ⟨q, c, he, hh⟩ := HB.out
        obtain ⟨sb, so, rfl, hc⟩ := hh (by intro h0; have := HM.out 0; rw [h0] at this; simp at this; omega)
        simp at he
        refine ⟨sb, so, he.1, fun W' hb j hj => ?_⟩
        have h1 := hc i (by have := HM.out 0; omega) j hj
        rw [hb.cell (p := ⟨sb, so + i * 13 + j, none⟩) (lt_of_cell h1)]; exact h1
      obtain ⟨k, id, z0, z1, z2, z3, z4, z5, z6, z7, z8, z9, z10, hcb2⟩ : ∃ k id z0 z1 z2 z3 z4 z5 z6 z7 z8 z9 z10 : Int, ∀ W', Below w.heap.size w W' → ∀ j, j < 13 → W'.cell? ⟨sb, so + i * 13 + j, none⟩ = some (.int .i64 ([k, id, z0, z1, z2, z3, z4, z5, z6, z7, z8, z9, z10].getD j 0)) := by
        refine ⟨(os.getD i []).getD 0 0, (os.getD i []).getD 1 0, (os.getD i []).getD 2 0, (os.getD i []).getD 3 0, (os.getD i []).getD 4 0, (os.getD i []).getD 5 0, (os.getD i []).getD 6 0, (os.getD i []).getD 7 0, (os.getD i []).getD 8 0, (os.getD i []).getD 9 0, (os.getD i []).getD 10 0, (os.getD i []).getD 11 0, (os.getD i []).getD 12 0, fun W' hb j hj => ?_⟩
        rw [hcb W' hb j hj]
        match j, hj with
        | 0, _ => rfl
        | 1, _ => rfl
        | 2, _ => rfl
        | 3, _ => rfl
        | 4, _ => rfl
        | 5, _ => rfl
        | 6, _ => rfl
        | 7, _ => rfl
        | 8, _ => rfl
        | 9, _ => rfl
        | 10, _ => rfl
        | 11, _ => rfl
        | 12, _ => rfl
      have HCB := hid hcb2
      have HLT : Hid (past < 1000) := hid (by omega)
      clear hcb hcb2
      go_upto_region 8 with fail
      have d0 : wr.drew.cell? ⟨sb, so + i * 13, none⟩ = some (.int .i64 k) := HCB.out wr.drew (Below.drewN HBW.out 1) 0 (by omega)
      have d1 : wr.drew.cell? ⟨sb, so + i * 13 + 1, none⟩ = some (.int .i64 id) := HCB.out wr.drew (Below.drewN HBW.out 1) 1 (by omega)
      have d2 : wr.drew.cell? ⟨sb, so + i * 13 + 2, none⟩ = some (.int .i64 z0) := HCB.out wr.drew (Below.drewN HBW.out 1) 2 (by omega)
      have d3 : wr.drew.cell? ⟨sb, so + i * 13 + 3, none⟩ = some (.int .i64 z1) := HCB.out wr.drew (Below.drewN HBW.out 1) 3 (by omega)
      have d4 : wr.drew.cell? ⟨sb, so + i * 13 + 4, none⟩ = some (.int .i64 z2) := HCB.out wr.drew (Below.drewN HBW.out 1) 4 (by omega)
      have d5 : wr.drew.cell? ⟨sb, so + i * 13 + 5, none⟩ = some (.int .i64 z3) := HCB.out wr.drew (Below.drewN HBW.out 1) 5 (by omega)
      have d6 : wr.drew.cell? ⟨sb, so + i * 13 + 6, none⟩ = some (.int .i64 z4) := HCB.out wr.drew (Below.drewN HBW.out 1) 6 (by omega)
      have d7 : wr.drew.cell? ⟨sb, so + i * 13 + 7, none⟩ = some (.int .i64 z5) := HCB.out wr.drew (Below.drewN HBW.out 1) 7 (by omega)
      have d8 : wr.drew.cell? ⟨sb, so + i * 13 + 8, none⟩ = some (.int .i64 z6) := HCB.out wr.drew (Below.drewN HBW.out 1) 8 (by omega)
      have d9 : wr.drew.cell? ⟨sb, so + i * 13 + 9, none⟩ = some (.int .i64 z7) := HCB.out wr.drew (Below.drewN HBW.out 1) 9 (by omega)
      have d10 : wr.drew.cell? ⟨sb, so + i * 13 + 10, none⟩ = some (.int .i64 z8) := HCB.out wr.drew (Below.drewN HBW.out 1) 10 (by omega)
      have d11 : wr.drew.cell? ⟨sb, so + i * 13 + 11, none⟩ = some (.int .i64 z9) := HCB.out wr.drew (Below.drewN HBW.out 1) 11 (by omega)
      have d12 : wr.drew.cell? ⟨sb, so + i * 13 + 12, none⟩ = some (.int .i64 z10) := HCB.out wr.drew (Below.drewN HBW.out 1) 12 (by omega)
      have HT' : Hid (Tb wr.drew g l past) := HT.out.keep rfl
      have HR' : Hid (Rf wr.drew r l (past + 1)) := HR.out.keep fun _ _ _ => rfl
      have HBW' : Hid (Below w.heap.size w wr.drew) := Below.drewN HBW.out 1
      have HGU : Hid (g ≤ wr.drew.heap.size) := Nat.le_of_lt HT'.out.lt
      clear HT HR HBW
      refine wp_region_fork [.take 0, .take 1, .take 2, .take 3, .take 4, .turn 5, .turn 6, .take 7, .take 8, .take 9, .take 11, .take 12, .take 13, .fork 10 14, .take 15, .take 16, .take 17, .take 18, .take 20, .take 21, .take 22, .fork 19 23, .turn 24, .take 25, .take 26] (by kernel_rfl) (by kernel_rfl) rfl (by kernel_rfl) ?_
      obtain ⟨U, hU⟩ : ∃ U, U = wr.drew := ⟨_, rfl⟩
      rw [← hU] at HT' HR' HBW' HGU d0 d1 d2 d3 d4 d5 d6 d7 d8 d9 d10 d11 d12 ⊢
      clear hU
      iterate 5 (refine fork_take rfl (fun K hK => ?_); go_simp; first | refine hK _ ?_ | refine ⟨_, fun _ => rfl, hK _ ?_⟩; clear hK K)
      refine fork_turn rfl (fun K hK => ?_)
      go_simp
      refine hK _ _ ?_
      clear hK K
      refine fork_turn rfl (fun K hK => ?_)
      go_simp
      refine Calls.mono (h10.out g r l past k id z0 z1 z2 z3 z4 z5 z6 z7 z8 z9 z10 U HT'.out HR'.out HGR.out ⟨hp0, HLT.out⟩) ?_
      rintro _ w4 ⟨rfl, l', p', hq0, hq1, ht4, hr4, hb4⟩
      refine hK _ _ ?_
      clear hK K d0 d1 d2 d3 d4 d5 d6 d7 d8 d9 d10 d11 d12
      have HT4 := hid ht4
      have HR4 := hid hr4
      have HB4 : Hid (Below w.heap.size w w4) := HBW'.out.trans (hb4.mono HG.out)
      obtain ⟨vL, hbL, hoL⟩ := hr4
      obtain ⟨pL, cL, rfl⟩ := hoL.form
      have HBL := hid hbL
      have HOL := hid hoL
      have e0 : w4.cell? ⟨r, 0, none⟩ = some (.slice pL l'.length cL) := hbL.cell 0
      have e1 : w4.cell? ⟨r, 1, none⟩ = some (.int .i64 (p' + 1)) := hbL.cell 1
      have hq2 : p' + 1 ≤ 2000 := by have := HLT.out; omega
      have HP' : Hid (0 ≤ p' ∧ p' < 2147483646) := hid (by omega)
      have hfew := HT4.out.few
      clear ht4 hb4 hbL hoL HT' HR' HBW'
      have HSL : Hid (l'.length ≤ 1000000) := hid (by omega)
      iterate 6 (refine fork_take rfl (fun K hK => ?_); go_simp; first | refine hK _ ?_ | refine ⟨_, fun _ => rfl, hK _ ?_⟩; clear hK K)
      refine fork_both ?_ ?_
      all_goals
        first
        | (refine fork_turn rfl (fun K hK => ?_)
           go_simp
           refine Calls.mono (h11.out g l' p' w4 HT4.out HP'.out) ?_
           rintro _ w5 ⟨rfl, hw⟩
           rw [hw]
           clear hw w5
           refine hK _ _ ?_
           clear hK K
           refine fork_turn rfl (fun K hK => ?_)
           go_simp
           refine hK _ _ ?_
           clear hK K)
        | (refine fork_turn rfl (fun K hK => ?_)
           go_simp
           refine hK _ _ ?_
           clear hK K
           refine fork_turn rfl (fun K hK => ?_)
           go_simp
           refine Calls.mono (h11.out g l' p' w4 HT4.out HP'.out) ?_
           rintro _ w5 ⟨rfl, hw⟩
           rw [hw]
           clear hw w5
           refine hK _ _ ?_
           clear hK K)
        iterate 7 (refine fork_take rfl (fun K hK => ?_); go_simp; first | refine hK _ ?_ | refine ⟨_, fun _ => rfl, hK _ ?_⟩; clear hK K)
        refine fork_both ?_ ?_
      all_goals
        first
        | (refine fork_turn rfl (fun K hK => ?_)
           go_simp
           refine Calls.mono (h13.out g l' p' w4 HT4.out) ?_
           rintro _ w5 ⟨v5, rfl, ho5, hb5⟩
           obtain ⟨p5, c5, rfl⟩ := ho5.form
           refine hK _ _ ?_
           clear hK K
           have f0 : w5.cell? ⟨r, 0, none⟩ = some (.slice pL l'.length cL) := (HBL.out.below hb5 HBL.out.lt).cell 0
           refine fork_turn rfl (fun K hK => ?_)
           go_simp
           refine hK _ _ ?_
           clear hK K)
        | (refine fork_turn rfl (fun K hK => ?_)
           go_simp
           refine hK _ _ ?_
           clear hK K
           refine fork_turn rfl (fun K hK => ?_)
           go_simp
           refine Calls.mono (h13.out g l' p' w4 HT4.out) ?_
           rintro _ w5 ⟨v5, rfl, ho5, hb5⟩
           obtain ⟨p5, c5, rfl⟩ := ho5.form
           refine hK _ _ ?_
           clear hK K)
        have HO5 := hid ho5
        have HOL5 := hid (HOL.out.keep fun k _ hk => hb5.block k hk)
        have HT5 := hid (HT4.out.below hb5 HT4.out.lt)
        have HR5 := hid (HR4.out.below hb5)
        have HB5 := hid (HB4.out.trans (hb5.mono HB4.out.size))
        refine fork_turn rfl (fun K hK => ?_)
        go_simp
        refine Calls.mono (h12.out l' _ _ _ _ _ _ _ w5 HO5.out HOL5.out HSL.out) ?_
        rintro _ w6 ⟨rfl, hb6⟩
        refine hK _ _ ?_
        clear hK K
        have HT6 := hid (HT5.out.below hb6 HT5.out.lt)
        have HR6 := hid (HR5.out.below hb6)
        have HB6 := hid (HB5.out.trans (hb6.mono HB5.out.size))
        iterate 2 (refine fork_take rfl (fun K hK => ?_); go_simp; first | refine hK _ ?_ | refine ⟨_, fun _ => rfl, hK _ ?_⟩; clear hK K)
        refine fork_done ⟨rfl, ?_⟩
        clear hb5 hb6 ho5 e0 e1
        go_wp2
        go_roundw
        case rel => exact ⟨i + 1, l', p', by omega, hq0, by omega, by simp, HT6, HR6, HB6⟩
        case measure => simp [intOf]; omega
    · obtain rfl : i = M := by omega
      have hl' : ((i : Int) < (i : Int)) = False := by simp
      go_wp2
      go_ret
      exact ⟨rfl, HBW.out⟩
end Go.Proofs.Ytdagkeklfhlcnaa
