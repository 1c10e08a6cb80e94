/- The law FlowLeads: its walk. -/
import Derived.Test.YtgkjlfpkhpnpfaaFacts
namespace Go.Proofs.Ytgkjlfpkhpnpfaa
open Go.RowKit
set_option maxRecDepth 4000 in
set_option maxHeartbeats 8000000 in
theorem leads_walk (m : Mp) (v : Value) (p1 p2 : Option Addr) (N1 c1 N2 c2 : Nat) (bl gs : List Cl) (w : World) (hm : MapAt w v m) (hbl : CellsAt w (.slice p1 N1 c1) bl) (hgs : CellsAt w (.slice p2 N2 c2) gs) :
    Calls Try.prog 4 #[v, .slice p1 N1 c1, .slice p2 N2 c2] w fun e w' => e = .returned (.bool true) ∧ Below w.heap.size w w' := by
  have hN1 : N1 = bl.length := by obtain ⟨q, c, e, _⟩ := hbl; simp only [Value.slice.injEq] at e; exact e.2.1
  have hN2 : N2 = gs.length := by obtain ⟨q, c, e, _⟩ := hgs; simp only [Value.slice.injEq] at e; exact e.2.1
  obtain ⟨FW, hFW⟩ : ∃ FW, FW = fewG m.ts.length m.os.length N1 N2 := ⟨_, rfl⟩
  have h8 : Hid (∀ W, Calls Try.prog 8 #[] W fun e w' => Out W (.bool true) e w') := awake_any
  have h10 : Hid (FW = true → ∀ W, Below w.heap.size w W → Calls Try.prog 10 #[v, .slice p1 N1 c1, .slice p2 N2 c2] W fun e w' => OutMake W m bl gs e w') := fun h W hb => by
    rw [hFW] at h
    have := fewG_of h
    exact make_any m v _ _ bl gs W (hm.below hb) (hbl.below hb) (hgs.below hb) (by omega) (by omega)
  have h18 : Hid (FW = true → ∀ x y W, Below w.heap.size w W → Calls Try.prog 18 #[.slice p2 N2 c2, C x y] W fun e w' => Out W (.bool (gs.contains (x, y))) e w') := fun h x y W hb => by
    rw [hFW] at h
    have := fewG_of h
    exact in_any gs p2 N2 c2 x y W (hgs.below hb) (by omega)
  have h17 : Hid (∀ ax ay bx by_ W, Calls Try.prog 17 #[C ax ay, C bx by_] W fun e w' => Out W (.int .i64 (dist ax ay bx by_)) e w') := refDist_any
  have h16 : Hid (∀ f base s x y W, FieldAt W base s m bl gs f → Calls Try.prog 16 #[s, C x y] W fun e w' => Out W (.int .i64 (farV f (x, y))) e w') := fun f base s x y W h => far_any m s bl gs f base x y W h
  have h14 : Hid (∀ f base s x y W, FieldAt W base s m bl gs f → Calls Try.prog 14 #[s, C x y] W fun e w' => Out W (.tuple #[C ((nextV m bl gs f (x, y)).getD (0, 0)).1 ((nextV m bl gs f (x, y)).getD (0, 0)).2, .bool (nextV m bl gs f (x, y)).isSome]) e w') := fun f base s x y W h => next_any m s bl gs f base x y W h
  obtain ⟨q1, d1, q2, d2, rfl, -, -⟩ := hm
  have h9 : Hid (∀ W, Calls Try.prog 9 #[.agg #[.int .i64 m.W, .int .i64 m.H, .slice q1 m.ts.length d1, .slice q2 m.os.length d2], .slice p1 N1 c1, .slice p2 N2 c2] W fun e w' => Out W (.bool FW) e w') := fun W => by
    rw [hFW]; exact few_any _ _ _ _ _ _ _ _ _ _ _ _ _ _ W
  have HE0 : Hid (makeE m gs = 0 → formed m = true ∧ ∀ c ∈ gs, inn m c = true) := makeE_zero
  clear hFW hN1 hN2 hbl hgs
  obtain ⟨S1, hS1⟩ : ∃ z, z = Value.slice q1 m.ts.length d1 := ⟨_, rfl⟩
  obtain ⟨S2, hS2⟩ : ∃ z, z = Value.slice q2 m.os.length d2 := ⟨_, rfl⟩
  obtain ⟨S3, hS3⟩ : ∃ z, z = Value.slice p1 N1 c1 := ⟨_, rfl⟩
  obtain ⟨S4, hS4⟩ : ∃ z, z = Value.slice p2 N2 c2 := ⟨_, rfl⟩
  obtain ⟨mW, hmW⟩ : ∃ z, z = m.W := ⟨_, rfl⟩
  obtain ⟨mH, hmH⟩ : ∃ z, z = m.H := ⟨_, rfl⟩
  have HMW := hid (fun (_ : Nat) => And.intro hmW hmH)
  rw [← hS1, ← hS2, ← hmW, ← hmH] at h10 h9 ⊢
  rw [← hS3, ← hS4] at h9 h10 ⊢
  rw [← hS4] at h18
  unfold OutMake at h10
  obtain ⟨E, hE⟩ : ∃ E, E = makeE m gs := ⟨_, rfl⟩
  rw [← hE] at h10 HE0
  clear hS1 hS2 hS3 hS4 hmW hmH hE
  unfold C Out at *
  go_enter Try.func4, Try.ntmps4
  go_upto_region 1 with fail
  obtain ⟨W, hW⟩ : ∃ W, W = w.alloc (.cells #[Value.int .i64 mW, .int .i64 mH, S1, S2] 24) := ⟨_, rfl⟩
  obtain ⟨B, hB⟩ : ∃ B, B = w.heap.size := ⟨_, rfl⟩
  rw [← hW, ← hB]
  have hsz : W.heap.size = B + 1 := by rw [hW, hB]; simp
  have hbk : Blk W B [Value.int .i64 mW, .int .i64 mH, S1, S2] 24 := by rw [hW, hB]; exact Blk.new _ _ _
  have HBE : Hid (∀ w', Below (B + 1) W w' → Below B w w') := by
    intro w' h
    have h1 : Below w.heap.size w W := by rw [hW]; exact (Below.refl _ _).alloc (Nat.le_refl _) _
    rw [← hB] at h1
    exact h1.trans (h.mono (by omega))
  have HK : Hid (∀ w', Below (B + 1) W w' → w'.cell? ⟨B, 0, none⟩ = some (.int .i64 mW) ∧ w'.cell? ⟨B, 1, none⟩ = some (.int .i64 mH) ∧ w'.cell? ⟨B, 2, none⟩ = some S1 ∧ w'.cell? ⟨B, 3, none⟩ = some S2) := fun w' h => by
    have := hbk.below h (by omega)
    exact ⟨this.cell 0, this.cell 1, this.cell 2, this.cell 3⟩
  have HB := hid (fun (_ : Nat) => hB)
  have HB0 := hid (Below.refl (B + 1) W)
  rw [← hB] at h10 h18
  clear hW hB hbk
  go_wp2_with fail
  refine Calls.mono (h8.out W) ?_
  rintro e w1 ⟨rfl, hb1⟩
  have HB1 : Hid (Below (B + 1) W w1) := by rw [← hsz]; exact hid hb1
  clear hb1 HB0
  obtain ⟨a0, a1, a2, a3⟩ := HK.out _ HB1.out
  go_wp2_with fail
  refine Calls.mono (h9.out w1) ?_
  rintro e w2 ⟨rfl, hb2⟩
  have HB2 : Hid (Below (B + 1) W w2) := HB1.out.trans (hb2.mono (by rw [← hsz]; exact HB1.out.size))
  clear hb2 HB1 a0 a1 a2 a3
  cases hFW : FW with
  | false =>
    go_wp2_with fail
    refine Calls.mono (h8.out w2) ?_
    rintro e w3 ⟨rfl, hb3⟩
    have HB3 : Hid (Below (B + 1) W w3) := HB2.out.trans (hb3.mono (by rw [← hsz]; exact HB2.out.size))
    clear hb3
    go_wp2
    go_ret
    have HE := HBE.out _ HB3.out
    rw [HB.out 0] at HE
    first
      | exact ⟨rfl, HE⟩
      | exact HE
  | true =>
    obtain ⟨a0, a1, a2, a3⟩ := HK.out _ HB2.out
    have H10 := hid (h10.out hFW)
    have H18 := hid (h18.out hFW)
    clear h10 h18 h8 h9 hFW
    go_wp2_with fail
    refine Calls.mono (H10.out w2 (HBE.out _ HB2.out)) ?_
    rintro e w3 ⟨s, rfl, hb3, hne, heq⟩
    have HB3 : Hid (Below (B + 1) W w3) := HB2.out.trans (hb3.mono (by rw [← hsz]; exact HB2.out.size))
    clear a0 a1 a2 a3 hb3
    by_cases hE0 : E = 0
    · obtain ⟨f, hfi, hfa⟩ := heq hE0
      obtain ⟨hfm, hgi⟩ := HE0.out hE0
      subst hE0
      have HFI := hid hfi
      have HFA : Hid (FieldAt w3 (B + 1) s m bl gs f) := hfa.mono (by rw [← hsz]; exact HB2.out.size)
      obtain ⟨fb, bf, bn, rfl, -⟩ := hfa
      clear heq hne hfi H10 HB2 HE0
      obtain ⟨e1, e2⟩ := HMW.out 0
      obtain ⟨f1, f2, -⟩ := formed_of hfm
      have hp := prod_bound f1 f2
      rw [← e1, ← e2] at hp
      rw [← e1] at f1
      rw [← e2] at f2
      obtain ⟨T, hT⟩ : ∃ T : Nat, mW * mH = (T : Int) := ⟨(mW * mH).toNat, by omega⟩
      have hmul : wrap64 (mW * mH) = (T : Int) := by rw [← hT]; exact wrap_small (by omega)
      have hT4 : T ≤ 400 := by omega
      have HSF : Hid (∀ c, 0 < numV (f c) → ∃ x, nextV m bl gs f c = some x ∧ dist c.1 c.2 x.1 x.2 = 1 ∧ numV (f x) = numV (f c) - 1) := fun c h => step_facts hfm HFI.out h
      have HNZ : Hid (∀ c, numV (f c) ≤ 0 → nextV m bl gs f c = none) := fun c h => nextV_zero h
      have HGC : Hid (∀ c, numV (f c) = 0 → gs.contains c = true) := fun c h => by
        have : f c = some 0 := by
          cases hn : f c with
          | none => rw [hn] at h; simp only [numV] at h; omega
          | some n => rw [hn] at h; simp only [numV] at h; rw [show n = 0 by omega]
        have := (HFI.out.zero.1 this).1
        simpa using this
      have HFL : Hid (∀ c, -1 ≤ numV (f c) ∧ numV (f c) ≤ 400) := fun c => by
        cases hn : f c with
        | none => simp [numV]
        | some n => have := HFI.out.few c n hn; simp only [numV]; omega
      clear hT e1 e2 hp hfm hgi HFI f2
      have HB4 := HB3
      go_upto_region 7 with fail
      obtain ⟨P, hP⟩ : ∃ P, P = w3.heap.size := ⟨_, rfl⟩
      have HPE := hid (fun (_ : Nat) => hP)
      have hPB : B + 1 ≤ P := by rw [hP, ← hsz]; exact HB3.out.size
      have HR0 : Hid (Below P w3 w3) := Below.refl _ _
      have HFT : Hid (∀ W', Below P w3 W' → FieldAt W' (B + 1) (.pointer (some ⟨fb, 0, none⟩)) m bl gs f) := fun W' h => HFA.out.below (by rw [← hP]; exact h)
      have HBT : Hid (∀ W', Below P w3 W' → Below (B + 1) W W') := fun W' h => HB3.out.trans (h.mono hPB)
      clear hP HB3 HB4 HFA
      go_loopw [9] (fun iv wr => ∃ i : Nat, i ≤ T ∧ iv = .int .i64 (i : Int) ∧ Hid (Below P w3 wr)) (fun iv _ => T - (intOf iv).toNat)
      case atStart => exact ⟨0, by omega, rfl, HR0⟩
      case round =>
        clear HR0
        obtain ⟨i, hi, rfl, HR1⟩ := hrel
        obtain ⟨a0, a1, a2, a3⟩ := HK.out _ (HBT.out _ HR1.out)
        have hW1 : wrap64 ((i : Int) + 1) = (i : Int) + 1 := wrap_small (by omega)
        have HW1 := hid hW1
        clear hW1
        by_cases hl : i < T
        · have hl' : (i : Int) < (T : Int) := by omega
          have HIT := hid hl
          clear hl hi
          go_upto_region 9 with fail
          have hj0 : (0 : Int) ≤ (i : Int) := by omega
          have hz : (mW = 0) = False := by simp; omega
          have ht1 : (i : Int).tmod mW = (i : Int) % mW := Int.tmod_eq_emod_of_nonneg hj0
          have ht2 : (i : Int).tdiv mW = (i : Int) / mW := Int.tdiv_eq_ediv_of_nonneg hj0
          have hq1 : 0 ≤ (i : Int) / mW := Int.ediv_nonneg hj0 (by omega)
          have hq2 : (i : Int) / mW ≤ 9223372036854775807 := by have := Int.ediv_le_self mW hj0; omega
          obtain ⟨x, hx⟩ : ∃ x, x = (i : Int) % mW := ⟨_, rfl⟩
          obtain ⟨y, hy⟩ : ∃ y, y = (i : Int) / mW := ⟨_, rfl⟩
          rw [← hx] at ht1
          rw [← hy] at ht2 hq1 hq2
          clear hx hy
          have hwy : IntKind.i64.wrap y = y := by rw [IntKind.wrap_i64]; omega
          have b0 : ∀ z : Nx wr, z.w.cell? ⟨B, 0, none⟩ = some (.int .i64 mW) := fun z => (HK.out z.w ((HBT.out _ HR1.out).trans (z.h.mono (by have := HR1.out.size; have := HPE.out 0; omega)))).1
          clear a0 a1 a2 a3 hq1 hq2
          refine wp_region_calm (S := fun w' => ∃ z : Nx wr, w' = z.w) [(0, false), (1, false), (2, false), (3, false), (4, false), (5, false), (6, false), (7, false), (8, false), (9, true), (10, true)] (by kernel_rfl) (by kernel_rfl) rfl (by kernel_rfl) ⟨⟨wr.drew, below_drew (Below.refl _ _)⟩, rfl⟩ ?_
          repeat (refine plan_take rfl (fun K hK => ?_); go_simp; refine ⟨_, fun _ => rfl, hK _ ?_⟩; clear hK K)
          refine plan_turn rfl (fun K hK => ?_)
          go_simp
          obtain ⟨V, hV⟩ : ∃ V, V = (wr.alloc (.cells #[Value.int .i64 0, .int .i64 0] 37)).drew := ⟨_, rfl⟩
          obtain ⟨g, hg⟩ : ∃ g, g = wr.heap.size := ⟨_, rfl⟩
          rw [← hV, ← hg]
          have HBV : Hid (Below g wr V) := by rw [hV, hg]; exact below_drew ((Below.refl _ _).alloc (Nat.le_refl _) _)
          have HG : Hid (Blk V g [.int .i64 0, .int .i64 0] 37) := by rw [hV, hg]; exact Blk.new wr _ _
          have hPg : P ≤ g := by rw [hg, HPE.out 0]; exact HR1.out.size
          have HGE := hid (fun (_ : Nat) => hg)
          clear hV hg
          refine hK _ _ ⟨⟨V, by rw [← HGE.out 0]; exact HBV.out⟩, rfl⟩ ?_
          clear hK K
          have g0 : V.cell? ⟨g, 0, none⟩ = some (.int .i64 0) := HG.out.cell 0
          have g1 : V.cell? ⟨g, 1, none⟩ = some (.int .i64 0) := HG.out.cell 1
          have z0 := HG.out.frozen 0
          have z1 := HG.out.frozen 1
          refine plan_turn rfl (fun K hK => ?_)
          go_simp
          obtain ⟨U, hU⟩ : ∃ U, U = (V.setCell ⟨g, 0, none⟩ (.int .i64 x)).setCell ⟨g, 1, none⟩ (.int .i64 y) := ⟨_, rfl⟩
          rw [← hU]
          have hTU : Turn g V U := by rw [hU]; exact turn_two _ _ _ _
          have HBU : Hid (Below g wr U) := HBV.out.trans (hTU.below (Nat.le_refl _))
          have HGU : Hid (Blk U g [.int .i64 x, .int .i64 y] 37) := by rw [hU]; exact (HG.out.set 0 _).set 1 _
          clear hU hTU g0 g1 z0 z1 HG HBV b0
          refine hK _ _ ⟨⟨U, by rw [← HGE.out 0]; exact HBU.out⟩, rfl⟩ ?_
          clear hK K
          refine plan_done ⟨rfl, ?_⟩
          have HRU : Hid (Below P w3 U) := HR1.out.trans (HBU.out.mono hPg)
          clear ht1 ht2 hwy hz hl' hj0 HBU HR1
          have g0 : U.cell? ⟨g, 0, none⟩ = some (.int .i64 x) := HGU.out.cell 0
          have g1 : U.cell? ⟨g, 1, none⟩ = some (.int .i64 y) := HGU.out.cell 1
          go_wp2_with fail
          refine Calls.mono (h16.out f _ _ x y U (HFT.out U HRU.out)) ?_
          rintro e w4 ⟨rfl, hb4⟩
          have HG4 : Hid (Blk w4 g [.int .i64 x, .int .i64 y] 37) := HGU.out.below hb4 HGU.out.lt
          have HR4 : Hid (Below P w3 w4) := HRU.out.trans (hb4.mono (by have := HGU.out.lt; omega))
          clear hb4 g0 g1 HGU HRU
          obtain ⟨n, hn⟩ : ∃ n, n = farV f (x, y) := ⟨_, rfl⟩
          rw [← hn]
          have hnl : -1 ≤ n ∧ n ≤ 400 := by rw [hn]; exact HFL.out (x, y)
          have HV0 : Hid (numV (f (x, y)) = n - (0 : Nat) ∧ ((0 : Nat) = 0 ∨ ((0 : Nat) : Int) ≤ n)) := hid ⟨by rw [hn]; unfold farV; omega, Or.inl rfl⟩
          clear hn
          go_upto_region 12 with fail
          go_loopw [12] (fun kv wr => ∃ (k : Nat) (c : Cl), kv = .int .i64 (k : Int) ∧ Hid (Below P w3 wr) ∧ Hid (Blk wr g [.int .i64 c.1, .int .i64 c.2] 37) ∧ Hid (numV (f c) = n - k ∧ (k = 0 ∨ (k : Int) ≤ n))) (fun kv _ => 401 - (intOf kv).toNat)
          case atStart => exact ⟨0, (x, y), rfl, HR4, HG4, hid ⟨HV0.out.1, Or.inl rfl⟩⟩
          case round =>
            clear HR4 HG4 HV0
            obtain ⟨k, ⟨cx, cy⟩, rfl, HR5, HG5, HV5⟩ := hrel
            have g0 : wr.cell? ⟨g, 0, none⟩ = some (.int .i64 cx) := HG5.out.cell 0
            have g1 : wr.cell? ⟨g, 1, none⟩ = some (.int .i64 cy) := HG5.out.cell 1
            by_cases hl : (k : Int) < n
            · have HKN := hid hl
              obtain ⟨⟨nx, ny⟩, e1, e2, e3⟩ := HSF.out (cx, cy) (by rw [HV5.out.1]; omega)
              have hnx := h14.out f _ _ cx cy wr (HFT.out wr HR5.out)
              rw [e1] at hnx
              simp only [Option.getD_some, Option.isSome_some] at hnx
              have HNX := hid hnx
              have HV6 : Hid (numV (f (nx, ny)) = n - ((k + 1 : Nat) : Int) ∧ (k + 1 = 0 ∨ ((k + 1 : Nat) : Int) ≤ n)) := hid ⟨by rw [e3, HV5.out.1]; omega, Or.inr (by omega)⟩
              have H17 : Hid (∀ W, Calls Try.prog 17 #[.agg #[.int .i64 cx, .int .i64 cy], .agg #[.int .i64 nx, .int .i64 ny]] W fun e w' => e = .returned (.int .i64 1) ∧ Below W.heap.size W w') := fun W => by
                have := h17.out cx cy nx ny W
                simp only at e2
                rw [e2] at this
                exact this
              clear hnx e1 e2 e3
              go_wp2_with fail
              refine Calls.mono HNX.out ?_
              rintro e w6 ⟨rfl, hb6⟩
              have HG6 : Hid (Blk w6 g [.int .i64 cx, .int .i64 cy] 37) := HG5.out.below hb6 HG5.out.lt
              have HR6 : Hid (Below P w3 w6) := HR5.out.trans (hb6.mono (by have := HG5.out.lt; omega))
              clear hb6 g0 g1 HG5 HR5 HNX
              obtain ⟨U2, hU⟩ : ∃ U2, U2 = w6.alloc (.cells #[Value.int .i64 nx, .int .i64 ny] 37) := ⟨_, rfl⟩
              obtain ⟨gg, hgg⟩ : ∃ gg, gg = w6.heap.size := ⟨_, rfl⟩
              have HUB : Hid (Below gg w6 U2) := by rw [hU, hgg]; exact (Below.refl _ _).alloc (Nat.le_refl _) _
              have HUG : Hid (Blk U2 gg [.int .i64 nx, .int .i64 ny] 37) := by rw [hU, hgg]; exact Blk.new _ _ _
              have hgl : g < gg := by rw [hgg]; exact HG6.out.lt
              have HG7 : Hid (Blk U2 g [.int .i64 cx, .int .i64 cy] 37) := HG6.out.below HUB.out hgl
              have HR7 : Hid (Below P w3 U2) := HR6.out.trans (HUB.out.mono (by omega))
              go_upto_region 15 with fail
              rw [← hU, ← hgg]
              clear hU hgg HUB HG6 HR6
              have g0 : U2.cell? ⟨g, 0, none⟩ = some (.int .i64 cx) := HG7.out.cell 0
              have g1 : U2.cell? ⟨g, 1, none⟩ = some (.int .i64 cy) := HG7.out.cell 1
              have g2 : U2.cell? ⟨gg, 0, none⟩ = some (.int .i64 nx) := HUG.out.cell 0
              have g3 : U2.cell? ⟨gg, 1, none⟩ = some (.int .i64 ny) := HUG.out.cell 1
              go_wp2_with fail
              refine Calls.mono (H17.out U2) ?_
              rintro e w8 ⟨rfl, hb8⟩
              have HG8 : Hid (Blk w8 g [.int .i64 cx, .int .i64 cy] 37) := HG7.out.below hb8 HG7.out.lt
              have HN8 : Hid (Blk w8 gg [.int .i64 nx, .int .i64 ny] 37) := HUG.out.below hb8 HUG.out.lt
              have HR8 : Hid (Below P w3 w8) := HR7.out.trans (hb8.mono (by have := HUG.out.lt; omega))
              clear hb8 g0 g1 g2 g3 HG7 HUG HR7
              have g0 : w8.cell? ⟨g, 0, none⟩ = some (.int .i64 cx) := HG8.out.cell 0
              have g1 : w8.cell? ⟨g, 1, none⟩ = some (.int .i64 cy) := HG8.out.cell 1
              have g2 : w8.cell? ⟨gg, 0, none⟩ = some (.int .i64 nx) := HN8.out.cell 0
              have g3 : w8.cell? ⟨gg, 1, none⟩ = some (.int .i64 ny) := HN8.out.cell 1
              have z0 := HG8.out.frozen 0
              have z1 := HG8.out.frozen 1
              have hT := turn_two w8 g (.int .i64 nx) (.int .i64 ny)
              obtain ⟨V8, hV8⟩ : ∃ V8, V8 = (w8.setCell ⟨g, 0, none⟩ (.int .i64 nx)).setCell ⟨g, 1, none⟩ (.int .i64 ny) := ⟨_, rfl⟩
              have HG9 : Hid (Blk V8 g [.int .i64 nx, .int .i64 ny] 37) := by rw [hV8]; exact (HG8.out.set 0 _).set 1 _
              rw [← hV8] at hT
              have HR9 : Hid (Below P w3 V8) := HR8.out.trans (hT.below hPg)
              have HV8 := hid (fun (_ : Nat) => hV8)
              clear hT hV8 HG8 HR8
              go_wp2
              rw [← HV8.out 0]
              go_roundw
              case rel => exact ⟨k + 1, (nx, ny), by simp, HR9, HG9, HV6⟩
              case measure =>
                have := HKN.out
                simp [intOf]; omega
            · have hl' : ((k : Int) < n) = False := by simp; omega
              have hv0 : numV (f (cx, cy)) ≤ 0 := by rw [HV5.out.1]; omega
              have hnx := h14.out f _ _ cx cy wr (HFT.out wr HR5.out)
              rw [HNZ.out _ hv0] at hnx
              simp only [Option.getD_none, Option.isSome_none] at hnx
              have HNX := hid hnx
              have HGI : Hid (0 ≤ n → gs.contains (cx, cy) = true) := fun h => HGC.out _ (by
                rw [HV5.out.1]
                rcases HV5.out.2 with h1 | h1
                · subst h1; simp at hl ⊢; omega
                · omega)
              clear hnx hv0 hl
              go_wp2_with fail
              refine Calls.mono HNX.out ?_
              rintro e w6 ⟨rfl, hb6⟩
              have HG6 : Hid (Blk w6 g [.int .i64 cx, .int .i64 cy] 37) := HG5.out.below hb6 HG5.out.lt
              have HR6 : Hid (Below P w3 w6) := HR5.out.trans (hb6.mono (by have := HG5.out.lt; omega))
              clear hb6 g0 g1 HG5 HR5 HNX
              obtain ⟨U2, hU⟩ : ∃ U2, U2 = w6.alloc (.cells #[Value.int .i64 0, .int .i64 0] 37) := ⟨_, rfl⟩
              have HUB : Hid (Below w6.heap.size w6 U2) := by rw [hU]; exact (Below.refl _ _).alloc (Nat.le_refl _) _
              have HG7 : Hid (Blk U2 g [.int .i64 cx, .int .i64 cy] 37) := HG6.out.below HUB.out HG6.out.lt
              have HR7 : Hid (Below P w3 U2) := HR6.out.trans (HUB.out.mono (by have := HG6.out.lt; omega))
              go_upto_region 19 with fail
              rw [← hU]
              clear hU HUB HG6 HR6
              have g0 : U2.cell? ⟨g, 0, none⟩ = some (.int .i64 cx) := HG7.out.cell 0
              have g1 : U2.cell? ⟨g, 1, none⟩ = some (.int .i64 cy) := HG7.out.cell 1
              by_cases hn0 : 0 ≤ n
              · have HGI' := hid (HGI.out hn0)
                go_wp2_with fail
                refine Calls.mono (H18.out cx cy U2 (HBE.out _ (HBT.out _ HR7.out))) ?_
                rintro e w8 ⟨rfl, hb8⟩
                have HR8 : Hid (Below P w3 w8) := HR7.out.trans (hb8.mono (by have := HG7.out.lt; omega))
                rw [HGI'.out]
                clear hb8 g0 g1
                go_wp2
                go_roundw
                case rel => exact ⟨i + 1, HIT.out, by rw [HW1.out]; simp, HR8⟩
                case measure =>
                  have := HIT.out
                  rw [HW1.out]
                  simp [intOf]; omega
              · have hn0' : (0 ≤ n) = False := by simp; omega
                clear hn0
                go_wp2
                go_roundw
                case rel => exact ⟨i + 1, HIT.out, by rw [HW1.out]; simp, HR7⟩
                case measure =>
                  have := HIT.out
                  rw [HW1.out]
                  simp [intOf]; omega
        · obtain rfl : i = T := by omega
          have hl' : ((i : Int) < (i : Int)) = False := by simp
          clear hl hi
          go_wp2
          go_ret
          have HE := HBE.out _ (HBT.out _ HR1.out)
          rw [HB.out 0] at HE
          first
            | exact ⟨rfl, HE⟩
            | exact HE
    · have := hne hE0
      subst this
      have hne' : (E != 0) = true := by simpa using hE0
      clear hne heq
      go_wp2
      go_ret
      have HE := HBE.out _ HB3.out
      rw [HB.out 0] at HE
      first
        | exact ⟨rfl, HE⟩
        | exact HE
end Go.Proofs.Ytgkjlfpkhpnpfaa
