/- The law FlowPaths: its walk. -/
import Derived.Test.YtgkjlfpkhpnpfaaPathsWay
namespace Go.Proofs.Ytgkjlfpkhpnpfaa
open Go.RowKit
attribute [local go_sem ↓] run_neqC run_eqlC
set_option maxRecDepth 4000 in
set_option maxHeartbeats 8000000 in
theorem paths_walk (m : Mp) (v : Value) (p1 : Option Addr) (N1 c1 : Nat) (bl : List Cl) (gx gy : Int) (w : World) (hm : MapAt w v m) (hbl : CellsAt w (.slice p1 N1 c1) bl) :
    Calls Try.prog 6 #[v, .slice p1 N1 c1, C gx gy] w fun e w' => e = .returned (.bool true) ∧ Below w.heap.size w w' := by
  have hN1 : N1 = bl.length := by obtain ⟨q, c, e, _⟩ := hbl; simp only [Value.slice.injEq] at e; exact e.2.1
  obtain ⟨gs, hgs⟩ : ∃ gs : List Cl, gs = [(gx, gy)] := ⟨_, rfl⟩
  obtain ⟨FW, hFW⟩ : ∃ FW, FW = fewG m.ts.length m.os.length N1 0 := ⟨_, rfl⟩
  have h8 : Hid (∀ W, Calls Try.prog 8 #[] W fun e w' => Out W (.bool true) e w') := awake_any
  have h10 : Hid (FW = true → ∀ W t, Below w.heap.size w W → CellsAt W t [(gx, gy)] → Calls Try.prog 10 #[v, .slice p1 N1 c1, t] W fun e w' => OutMake W m bl gs e w') := fun h W t hb ht => by
    rw [hFW] at h
    have := fewG_of h
    rw [hgs]
    exact make_any m v _ _ bl [(gx, gy)] W (hm.below hb) (hbl.below hb) ht (by omega) (by simp)
  have h19 : Hid (FW = true → ∀ x y W, Below w.heap.size w W → Calls Try.prog 19 #[v, .slice p1 N1 c1, C x y, C gx gy, .int .i64 1000] W fun e w' => OutFind W (findV m bl (x, y) (gx, gy) 1000) e w') := fun h x y W hb => by
    rw [hFW] at h
    have := fewG_of h
    exact find_any m v _ bl x y gx gy 1000 W (hm.below hb) (hbl.below hb) (by omega)
  have h16 : Hid (∀ f base s x y W, FieldAt W base s m bl gs f → Calls Try.prog 16 #[s, C x y] W fun e w' => Out W (.int .i64 (farV f (x, y))) e w') := fun f base s x y W h => far_any m s bl gs f base x y W h
  have h14 : Hid (∀ f base s x y W, FieldAt W base s m bl gs f → Calls Try.prog 14 #[s, C x y] W fun e w' => Out W (.tuple #[C ((nextV m bl gs f (x, y)).getD (0, 0)).1 ((nextV m bl gs f (x, y)).getD (0, 0)).2, .bool (nextV m bl gs f (x, y)).isSome]) e w') := fun f base s x y W h => next_any m s bl gs f base x y W h
  obtain ⟨q1, d1, q2, d2, rfl, -, -⟩ := hm
  have h9 : Hid (∀ W, Calls Try.prog 9 #[.agg #[.int .i64 m.W, .int .i64 m.H, .slice q1 m.ts.length d1, .slice q2 m.os.length d2], .slice p1 N1 c1, .slice none 0 0] W fun e w' => Out W (.bool FW) e w') := fun W => by
    rw [hFW]; exact few_any _ _ _ _ _ _ _ _ _ _ _ _ _ _ W
  have HE0 : Hid (makeE m gs = 0 → formed m = true ∧ ∀ c ∈ gs, inn m c = true) := makeE_zero
  have HPF : Hid (∀ f, formed m = true → inn m (gx, gy) = true → Field m bl gs f → ∀ c, inn m c = true → (f c = none → findV m bl c (gx, gy) 1000 = ([], 3)) ∧ (∀ n, f c = some n → ∃ l, findV m bl c (gx, gy) 1000 = (l, 0) ∧ l.length = n ∧ ∀ x, nextV m bl gs f c = some x → 0 < n ∧ l.getD 0 (0, 0) = x)) := fun f hf hb h c hc => by
    rw [hgs] at h ⊢
    exact paths_facts hf hb h hc
  have HGM : Hid ((gx, gy) ∈ gs) := by rw [hgs]; exact hid (by simp)
  clear hFW hN1 hbl hgs
  obtain ⟨S1, hS1⟩ : ∃ z, z = Value.slice q1 m.ts.length d1 := ⟨_, rfl⟩
  obtain ⟨S2, hS2⟩ : ∃ z, z = Value.slice q2 m.os.length d2 := ⟨_, rfl⟩
  obtain ⟨S3, hS3⟩ : ∃ z, z = Value.slice p1 N1 c1 := ⟨_, rfl⟩
  obtain ⟨mW, hmW⟩ : ∃ z, z = m.W := ⟨_, rfl⟩
  obtain ⟨mH, hmH⟩ : ∃ z, z = m.H := ⟨_, rfl⟩
  have HMW := hid (fun (_ : Nat) => And.intro hmW hmH)
  rw [← hS1, ← hS2, ← hmW, ← hmH] at h10 h9 h19 ⊢
  rw [← hS3] at h9 h10 h19 ⊢
  unfold OutMake at h10
  unfold OutFind at h19
  obtain ⟨E, hE⟩ : ∃ E, E = makeE m gs := ⟨_, rfl⟩
  rw [← hE] at h10 HE0
  clear hS1 hS2 hS3 hmW hmH hE
  unfold C Out at *
  go_enter Try.func6, Try.ntmps6
  go_upto_region 1 with fail
  obtain ⟨W, hW⟩ : ∃ W, W = (w.alloc (.cells #[Value.int .i64 mW, .int .i64 mH, S1, S2] 24)).alloc (.cells #[Value.int .i64 gx, .int .i64 gy] 37) := ⟨_, rfl⟩
  obtain ⟨B, hB⟩ : ∃ B, B = w.heap.size := ⟨_, rfl⟩
  rw [← hW, ← hB]
  have hsz : W.heap.size = B + 2 := by rw [hW, hB]; simp
  have hbk : Blk W B [Value.int .i64 mW, .int .i64 mH, S1, S2] 24 := by rw [hW, hB]; exact (Blk.new _ _ _).alloc _
  have hbk2 : Blk W (B + 1) [Value.int .i64 gx, .int .i64 gy] 37 := by rw [hW]; exact Blk.new' _ _ _ _ (by simp [hB])
  have HBE : Hid (∀ w', Below (B + 2) W w' → Below B w w') := by
    intro w' h
    have h1 : Below w.heap.size w W := by rw [hW]; exact ((Below.refl _ _).alloc (Nat.le_refl _) _).alloc (by simp) _
    rw [← hB] at h1
    exact h1.trans (h.mono (by omega))
  have HK : Hid (∀ w', Below (B + 2) W w' → w'.cell? ⟨B, 0, none⟩ = some (.int .i64 mW) ∧ w'.cell? ⟨B, 1, none⟩ = some (.int .i64 mH) ∧ w'.cell? ⟨B, 2, none⟩ = some S1 ∧ w'.cell? ⟨B, 3, none⟩ = some S2 ∧ w'.cell? ⟨B + 1, 0, none⟩ = some (.int .i64 gx) ∧ w'.cell? ⟨B + 1, 1, none⟩ = some (.int .i64 gy)) := fun w' h => by
    have := hbk.below h (by omega)
    have h2 := hbk2.below h (by omega)
    exact ⟨this.cell 0, this.cell 1, this.cell 2, this.cell 3, h2.cell 0, h2.cell 1⟩
  have HB := hid (fun (_ : Nat) => hB)
  have HB0 := hid (Below.refl (B + 2) W)
  rw [← hB] at h10 h19
  clear hW hB hbk hbk2
  go_wp2_with fail
  refine Calls.mono (h8.out W) ?_
  rintro e w1 ⟨rfl, hb1⟩
  have HB1 : Hid (Below (B + 2) W w1) := by rw [← hsz]; exact hid hb1
  clear hb1 HB0
  obtain ⟨a0, a1, a2, a3, a4, a5⟩ := HK.out _ HB1.out
  go_wp2_with fail
  refine Calls.mono (h9.out w1) ?_
  rintro e w2 ⟨rfl, hb2⟩
  have HB2 : Hid (Below (B + 2) W w2) := HB1.out.trans (hb2.mono (by rw [← hsz]; exact HB1.out.size))
  clear hb2 HB1 a0 a1 a2 a3 a4 a5
  cases hFW : FW with
  | false =>
    go_wp2_with fail
    refine Calls.mono (h8.out w2) ?_
    rintro e w3 ⟨rfl, hb3⟩
    have HB3 : Hid (Below (B + 2) W w3) := HB2.out.trans (hb3.mono (by rw [← hsz]; exact HB2.out.size))
    clear hb3
    go_wp2
    go_ret
    have HE := HBE.out _ HB3.out
    rw [HB.out 0] at HE
    first
      | exact ⟨rfl, HE⟩
      | exact HE
  | true =>
    obtain ⟨a0, a1, a2, a3, a4, a5⟩ := HK.out _ HB2.out
    have H10 := hid (h10.out hFW)
    have H19 := hid (h19.out hFW)
    clear h10 h19 h8 h9 hFW
    obtain ⟨Z, hZ⟩ : ∃ Z, Z = w2.alloc (.cells #[Value.int .i64 gx, .int .i64 gy] 37) := ⟨_, rfl⟩
    have HZB : Hid (Below w2.heap.size w2 Z) := by rw [hZ]; exact (Below.refl _ _).alloc (Nat.le_refl _) _
    have HZG : Hid (CellsAt Z (.slice (some ⟨w2.heap.size, 0, none⟩) 1 1) [(gx, gy)]) := by rw [hZ]; exact hid (OwnC.one (Blk.new _ _ _)).cells
    have HBZ : Hid (Below (B + 2) W Z) := HB2.out.trans (HZB.out.mono (by rw [← hsz]; exact HB2.out.size))
    rw [hZ] at HZG HBZ
    clear hZ HZB HB2
    have HB2 := HBZ
    go_wp2_with fail
    refine Calls.mono (H10.out _ _ (HBE.out _ HB2.out) HZG.out) ?_
    rintro e w3 ⟨s, rfl, hb3, hne, heq⟩
    have HB3 : Hid (Below (B + 2) W w3) := HB2.out.trans (hb3.mono (by rw [← hsz]; exact HB2.out.size))
    clear a0 a1 a2 a3 a4 a5 hb3
    by_cases hE0 : E = 0
    · obtain ⟨f, hfi, hfa⟩ := heq hE0
      obtain ⟨hfm, hgi⟩ := HE0.out hE0
      subst hE0
      have HFI := hid hfi
      have HFA : Hid (FieldAt w3 (B + 2) s m bl gs f) := hfa.mono (by rw [← hsz]; exact HB2.out.size)
      obtain ⟨fb, bf, bn, rfl, -⟩ := hfa
      clear heq hne hfi H10 HB2 HE0
      obtain ⟨e1, e2⟩ := HMW.out 0
      obtain ⟨f1, f2, -⟩ := formed_of hfm
      have hp := prod_bound f1 f2
      rw [← e1, ← e2] at hp
      rw [← e1] at f1
      rw [← e2] at f2
      obtain ⟨T, hT⟩ : ∃ T : Nat, mW * mH = (T : Int) := ⟨(mW * mH).toNat, by omega⟩
      have hmul : wrap64 (mW * mH) = (T : Int) := by rw [← hT]; exact wrap_small (by omega)
      have hT4 : T ≤ 400 := by omega
      have HPG := hid (HPF.out f hfm (hgi _ HGM.out) HFI.out)
      have HIN : Hid (∀ i : Nat, i < T → inn m ((i : Int) % mW, (i : Int) / mW) = true) := fun i hi => by
        rw [e1]
        exact inn_at hfm (by rw [← e1, ← e2, hT]; omega)
      clear hT e1 e2 hp hfm hgi HFI f2 HPF
      have HB4 := HB3
      go_upto_region 7 with fail
      obtain ⟨P, hP⟩ : ∃ P, P = w3.heap.size := ⟨_, rfl⟩
      have HPE := hid (fun (_ : Nat) => hP)
      have hPB : B + 2 ≤ P := by rw [hP, ← hsz]; exact HB3.out.size
      have HR0 : Hid (Below P w3 w3) := Below.refl _ _
      have HFT : Hid (∀ W', Below P w3 W' → FieldAt W' (B + 2) (.pointer (some ⟨fb, 0, none⟩)) m bl gs f) := fun W' h => HFA.out.below (by rw [← hP]; exact h)
      have HBT : Hid (∀ W', Below P w3 W' → Below (B + 2) W W') := fun W' h => HB3.out.trans (h.mono hPB)
      clear hP HB3 HB4 HFA
      go_loopw [9] (fun iv wr => ∃ i : Nat, i ≤ T ∧ iv = .int .i64 (i : Int) ∧ Hid (Below P w3 wr)) (fun iv _ => T - (intOf iv).toNat)
      case atStart => exact ⟨0, by omega, rfl, HR0⟩
      case round =>
        clear HR0
        obtain ⟨i, hi, rfl, HR1⟩ := hrel
        obtain ⟨a0, a1, a2, a3, a4, a5⟩ := HK.out _ (HBT.out _ HR1.out)
        have hW1 : wrap64 ((i : Int) + 1) = (i : Int) + 1 := wrap_small (by omega)
        have HW1 := hid hW1
        clear hW1
        by_cases hl : i < T
        · have hl' : (i : Int) < (T : Int) := by omega
          have HIT := hid hl
          clear hl hi
          go_upto_region 9 with fail
          have hj0 : (0 : Int) ≤ (i : Int) := by omega
          have hz : (mW = 0) = False := by simp; omega
          have ht1 : (i : Int).tmod mW = (i : Int) % mW := Int.tmod_eq_emod_of_nonneg hj0
          have ht2 : (i : Int).tdiv mW = (i : Int) / mW := Int.tdiv_eq_ediv_of_nonneg hj0
          have hq1 : 0 ≤ (i : Int) / mW := Int.ediv_nonneg hj0 (by omega)
          have hq2 : (i : Int) / mW ≤ 9223372036854775807 := by have := Int.ediv_le_self mW hj0; omega
          obtain ⟨x, hx⟩ : ∃ x, x = (i : Int) % mW := ⟨_, rfl⟩
          obtain ⟨y, hy⟩ : ∃ y, y = (i : Int) / mW := ⟨_, rfl⟩
          have hin := HIN.out i HIT.out
          rw [← hx, ← hy] at hin
          obtain ⟨hp1, hp2⟩ := HPG.out (x, y) hin
          have HP1 := hid hp1
          have HP2 := hid hp2
          clear hp1 hp2 hin
          rw [← hx] at ht1
          rw [← hy] at ht2 hq1 hq2
          clear hx hy
          have hwy : IntKind.i64.wrap y = y := by rw [IntKind.wrap_i64]; omega
          have b0 : ∀ z : Nx wr, z.w.cell? ⟨B, 0, none⟩ = some (.int .i64 mW) := fun z => (HK.out z.w ((HBT.out _ HR1.out).trans (z.h.mono (by have := HR1.out.size; have := HPE.out 0; omega)))).1
          clear a0 a1 a2 a3 hq1 hq2
          refine wp_region_calm (S := fun w' => ∃ z : Nx wr, w' = z.w) [(0, false), (1, false), (2, false), (3, false), (4, false), (5, false), (6, false), (7, false), (8, false), (9, true), (10, true)] (by kernel_rfl) (by kernel_rfl) rfl (by kernel_rfl) ⟨⟨wr.drew, below_drew (Below.refl _ _)⟩, rfl⟩ ?_
          repeat (refine plan_take rfl (fun K hK => ?_); go_simp; refine ⟨_, fun _ => rfl, hK _ ?_⟩; clear hK K)
          refine plan_turn rfl (fun K hK => ?_)
          go_simp
          obtain ⟨V, hV⟩ : ∃ V, V = (wr.alloc (.cells #[Value.int .i64 0, .int .i64 0] 37)).drew := ⟨_, rfl⟩
          obtain ⟨g, hg⟩ : ∃ g, g = wr.heap.size := ⟨_, rfl⟩
          rw [← hV, ← hg]
          have HBV : Hid (Below g wr V) := by rw [hV, hg]; exact below_drew ((Below.refl _ _).alloc (Nat.le_refl _) _)
          have HG : Hid (Blk V g [.int .i64 0, .int .i64 0] 37) := by rw [hV, hg]; exact Blk.new wr _ _
          have hPg : P ≤ g := by rw [hg, HPE.out 0]; exact HR1.out.size
          have HGE := hid (fun (_ : Nat) => hg)
          clear hV hg
          refine hK _ _ ⟨⟨V, by rw [← HGE.out 0]; exact HBV.out⟩, rfl⟩ ?_
          clear hK K
          have g0 : V.cell? ⟨g, 0, none⟩ = some (.int .i64 0) := HG.out.cell 0
          have g1 : V.cell? ⟨g, 1, none⟩ = some (.int .i64 0) := HG.out.cell 1
          have z0 := HG.out.frozen 0
          have z1 := HG.out.frozen 1
          refine plan_turn rfl (fun K hK => ?_)
          go_simp
          obtain ⟨U, hU⟩ : ∃ U, U = (V.setCell ⟨g, 0, none⟩ (.int .i64 x)).setCell ⟨g, 1, none⟩ (.int .i64 y) := ⟨_, rfl⟩
          rw [← hU]
          have hTU : Turn g V U := by rw [hU]; exact turn_two _ _ _ _
          have HBU : Hid (Below g wr U) := HBV.out.trans (hTU.below (Nat.le_refl _))
          have HGU : Hid (Blk U g [.int .i64 x, .int .i64 y] 37) := by rw [hU]; exact (HG.out.set 0 _).set 1 _
          clear hU hTU g0 g1 z0 z1 HG HBV b0
          refine hK _ _ ⟨⟨U, by rw [← HGE.out 0]; exact HBU.out⟩, rfl⟩ ?_
          clear hK K
          refine plan_done ⟨rfl, ?_⟩
          have HRU : Hid (Below P w3 U) := HR1.out.trans (HBU.out.mono hPg)
          clear ht1 ht2 hwy hz hl' hj0 HBU HR1
          have g0 : U.cell? ⟨g, 0, none⟩ = some (.int .i64 x) := HGU.out.cell 0
          have g1 : U.cell? ⟨g, 1, none⟩ = some (.int .i64 y) := HGU.out.cell 1
          obtain ⟨a0, a1, a2, a3, a4, a5⟩ := HK.out _ (HBT.out _ HRU.out)
          go_wp2_with fail
          refine Calls.mono (H19.out x y U (HBE.out _ (HBT.out _ HRU.out))) ?_
          rintro e w4 ⟨s, rfl, ho, hb4⟩
          have HG4 : Hid (Blk w4 g [.int .i64 x, .int .i64 y] 37) := HGU.out.below hb4 HGU.out.lt
          have HR4 : Hid (Below P w3 w4) := HRU.out.trans (hb4.mono (by have := HGU.out.lt; omega))
          have HNX := hid (fun W h => h14.out f _ _ x y W (HFT.out W h))
          have HFV := hid (fun W h => h16.out f _ _ x y W (HFT.out W h))
          have HFX : Hid (farV f (x, y) = numV (f (x, y))) := hid rfl
          rw [HFX.out] at HFV
          have HNV : Hid (f (x, y) = none → nextV m bl gs f (x, y) = none) := hid (fun h => by unfold nextV; rw [h])
          clear hb4 g0 g1 HGU HRU a0 a1 a2 a3 a4 a5 HFX
          have g0 : w4.cell? ⟨g, 0, none⟩ = some (.int .i64 x) := HG4.out.cell 0
          have g1 : w4.cell? ⟨g, 1, none⟩ = some (.int .i64 y) := HG4.out.cell 1
          cases hfx : f (x, y) with
          | none =>
            rw [HP1.out hfx] at ho ⊢
            rw [hfx] at HFV
            have hnv := HNV.out hfx
            rw [hnv] at HNX
            simp only [numV] at HFV
            simp only [Option.getD_none, Option.isSome_none] at HNX
            obtain ⟨ps, cs, rfl⟩ := ho.form
            clear hfx ho HP1 HP2 HNV hnv
            go_wp2_with fail
            refine Calls.mono (HFV.out w4 HR4.out) ?_
            rintro e w5 ⟨rfl, hb5⟩
            have HG5 : Hid (Blk w5 g [.int .i64 x, .int .i64 y] 37) := HG4.out.below hb5 HG4.out.lt
            have HR5 : Hid (Below P w3 w5) := HR4.out.trans (hb5.mono (by have := HG4.out.lt; omega))
            clear hb5 g0 g1 HG4 HR4
            have g0 : w5.cell? ⟨g, 0, none⟩ = some (.int .i64 x) := HG5.out.cell 0
            have g1 : w5.cell? ⟨g, 1, none⟩ = some (.int .i64 y) := HG5.out.cell 1
            go_wp2_with fail
            refine Calls.mono (HNX.out w5 HR5.out) ?_
            rintro e w6 ⟨rfl, hb6⟩
            have HR6 : Hid (Below P w3 w6) := HR5.out.trans (hb6.mono (by have := HG5.out.lt; omega))
            have hP6 : P ≤ w6.heap.size := by have := HR6.out.size; have := HPE.out 0; omega
            clear hb6 g0 g1 HG5 HR5
            obtain ⟨U2, hU⟩ : ∃ U2, U2 = w6.alloc (.cells #[Value.int .i64 0, .int .i64 0] 37) := ⟨_, rfl⟩
            have HUB : Hid (Below w6.heap.size w6 U2) := by rw [hU]; exact (Below.refl _ _).alloc (Nat.le_refl _) _
            have HR7 : Hid (Below P w3 U2) := HR6.out.trans (HUB.out.mono hP6)
            have HR9 := hid (fun n => Below.drewN HR7.out n)
            go_upto_region 14 with fail
            rw [← hU]
            clear hU HUB hP6
            go_quiet (fail)
            go_wp2
            go_roundw
            case rel => exact ⟨i + 1, HIT.out, by rw [HW1.out]; simp, HR9.out _⟩
            case measure =>
              have := HIT.out
              rw [HW1.out]
              simp [intOf]; omega
          | some n =>
            obtain ⟨l, hfv, hlen, hnl⟩ := HP2.out n hfx
            rw [hfv] at ho ⊢
            rw [hfx] at HFV
            simp only [numV] at HFV
            obtain ⟨ps, cs, rfl⟩ := ho.form
            have HO4 : Hid (OwnC w4 U.heap.size (.slice ps l.length cs) l) := hid ho
            simp only [hlen]
            have hn0 : (0 : Int) ≤ (n : Int) := Int.natCast_nonneg n
            have hnn : ((n : Int) != (n : Int)) = false := by simp
            have HLN := hid hlen
            have HNL := hid hnl
            clear hfx ho HP1 HP2 HNV hfv hlen hnl
            go_wp2_with fail
            refine Calls.mono (HFV.out w4 HR4.out) ?_
            rintro e w5 ⟨rfl, hb5⟩
            have HG5 : Hid (Blk w5 g [.int .i64 x, .int .i64 y] 37) := HG4.out.below hb5 HG4.out.lt
            have HR5 : Hid (Below P w3 w5) := HR4.out.trans (hb5.mono (by have := HG4.out.lt; omega))
            have HO5 := hid (HO4.out.below hb5)
            clear hb5 g0 g1 HG4 HR4 HO4
            have g0 : w5.cell? ⟨g, 0, none⟩ = some (.int .i64 x) := HG5.out.cell 0
            have g1 : w5.cell? ⟨g, 1, none⟩ = some (.int .i64 y) := HG5.out.cell 1
            go_wp2_with fail
            refine Calls.mono (HFV.out w5 HR5.out) ?_
            rintro e w6 ⟨rfl, hb6⟩
            have HG6 : Hid (Blk w6 g [.int .i64 x, .int .i64 y] 37) := HG5.out.below hb6 HG5.out.lt
            have HR6 : Hid (Below P w3 w6) := HR5.out.trans (hb6.mono (by have := HG5.out.lt; omega))
            have HO6 := hid (HO5.out.below hb6)
            clear hb6 g0 g1 HG5 HR5 HO5
            have g0 : w6.cell? ⟨g, 0, none⟩ = some (.int .i64 x) := HG6.out.cell 0
            have g1 : w6.cell? ⟨g, 1, none⟩ = some (.int .i64 y) := HG6.out.cell 1
            go_wp2_with fail
            refine Calls.mono (HNX.out w6 HR6.out) ?_
            rintro e w7 ⟨rfl, hb7⟩
            have HR7 : Hid (Below P w3 w7) := HR6.out.trans (hb7.mono (by have := HG6.out.lt; omega))
            have HO7 := hid (HO6.out.below hb7)
            have hP7 : P ≤ w7.heap.size := by have := HR7.out.size; have := HPE.out 0; omega
            clear hb7 g0 g1 HG6 HR6 HO6 hn0 hnn HNX HFV
            cases hnv : nextV m bl gs f (x, y) with
            | none =>
              simp only [Option.getD_none, Option.isSome_none]
              clear hnv
              obtain ⟨U2, hU⟩ : ∃ U2, U2 = w7.alloc (.cells #[Value.int .i64 0, .int .i64 0] 37) := ⟨_, rfl⟩
              have HUB : Hid (Below w7.heap.size w7 U2) := by rw [hU]; exact (Below.refl _ _).alloc (Nat.le_refl _) _
              have HR8 : Hid (Below P w3 U2) := HR7.out.trans (HUB.out.mono hP7)
              have HR9 := hid (fun n => Below.drewN HR8.out n)
              go_upto_region 14 with fail
              rw [← hU]
              clear hU HUB hP7
              go_quiet (fail)
              go_wp2
              go_roundw
              case rel => exact ⟨i + 1, HIT.out, by rw [HW1.out]; simp, HR9.out _⟩
              case measure =>
                have := HIT.out
                rw [HW1.out]
                simp [intOf]; omega
            | some z =>
              obtain ⟨z1, z2⟩ := z
              simp only [Option.getD_some, Option.isSome_some]
              obtain ⟨hn1, hl0⟩ := HNL.out (z1, z2) hnv
              have HLZ := hid hl0
              clear hnv hl0
              obtain ⟨U2, hU⟩ : ∃ U2, U2 = w7.alloc (.cells #[Value.int .i64 z1, .int .i64 z2] 37) := ⟨_, rfl⟩
              obtain ⟨gg, hgg⟩ : ∃ gg, gg = w7.heap.size := ⟨_, rfl⟩
              have HUB : Hid (Below w7.heap.size w7 U2) := by rw [hU]; exact (Below.refl _ _).alloc (Nat.le_refl _) _
              have HUG : Hid (Blk U2 gg [.int .i64 z1, .int .i64 z2] 37) := by rw [hU, hgg]; exact Blk.new _ _ _
              have HR8 : Hid (Below P w3 U2) := HR7.out.trans (HUB.out.mono hP7)
              have HO8 := hid (HO7.out.below HUB.out)
              have HR9 : Hid (Below P w3 U2.drew) := hid (below_drew HR8.out)
              go_upto_region 14 with fail
              rw [← hU, ← hgg]
              clear hU hgg HUB hP7 HO7 HR7
              obtain ⟨sb, so, rfl, d0, d1⟩ := HO8.out.cells.at (i := 0) (by have := HLN.out; omega)
              rw [HLZ.out] at d0 d1
              have d0' : U2.cell? ⟨sb, so, none⟩ = some (.int .i64 z1) := d0
              have d1' : U2.cell? ⟨sb, so + 1, none⟩ = some (.int .i64 z2) := by simpa using d1
              have g0 : U2.cell? ⟨gg, 0, none⟩ = some (.int .i64 z1) := HUG.out.cell 0
              have g1 : U2.cell? ⟨gg, 1, none⟩ = some (.int .i64 z2) := HUG.out.cell 1
              have hn1' : (0 : Int) < (n : Int) := by omega
              clear d0 d1 HO8 HUG
              go_still (by kernel_rfl)
              go_wp2
              go_roundw
              case rel => exact ⟨i + 1, HIT.out, by rw [HW1.out]; simp, HR9⟩
              case measure =>
                have := HIT.out
                rw [HW1.out]
                simp [intOf]; omega
        · obtain rfl : i = T := by omega
          have hl' : ((i : Int) < (i : Int)) = False := by simp
          clear hl hi
          go_wp2
          go_ret
          have HE := HBE.out _ (HBT.out _ HR1.out)
          rw [HB.out 0] at HE
          first
            | exact ⟨rfl, HE⟩
            | exact HE
    · have := hne hE0
      subst this
      have hne' : (E != 0) = true := by simpa using hE0
      clear hne heq
      go_wp2
      go_ret
      have HE := HBE.out _ HB3.out
      rw [HB.out 0] at HE
      first
        | exact ⟨rfl, HE⟩
        | exact HE
end Go.Proofs.Ytgkjlfpkhpnpfaa
