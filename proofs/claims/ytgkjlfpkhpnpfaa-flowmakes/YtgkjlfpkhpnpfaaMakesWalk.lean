/- The law FlowMakes: its walk. -/
import Derived.Test.YtgkjlfpkhpnpfaaFacts
import Derived.Test.YtgkjlfpkhpnpfaaRefMake
import Derived.Test.YtgkjlfpkhpnpfaaRefNext
import Derived.Test.YtgkjlfpkhpnpfaaForkTwo
namespace Go.Proofs.Ytgkjlfpkhpnpfaa
open Go.RowKit
attribute [local go_sem ↓] run_neqC run_eqlC
set_option maxRecDepth 4000 in
set_option maxHeartbeats 16000000 in
theorem makes_walk (m : Mp) (v : Value) (p1 p2 : Option Addr) (N1 c1 N2 c2 : Nat) (bl gs : List Cl) (w : World) (hm : MapAt w v m) (hbl : CellsAt w (.slice p1 N1 c1) bl) (hgs : CellsAt w (.slice p2 N2 c2) gs) :
    Calls Try.prog 3 #[v, .slice p1 N1 c1, .slice p2 N2 c2] w fun e w' => e = .returned (.bool true) ∧ Below w.heap.size w w' := by
  have hN1 : N1 = bl.length := by obtain ⟨q, c, e, _⟩ := hbl; simp only [Value.slice.injEq] at e; exact e.2.1
  have hN2 : N2 = gs.length := by obtain ⟨q, c, e, _⟩ := hgs; simp only [Value.slice.injEq] at e; exact e.2.1
  obtain ⟨FW, hFW⟩ : ∃ FW, FW = fewG m.ts.length m.os.length N1 N2 := ⟨_, rfl⟩
  obtain ⟨T, hTT⟩ : ∃ T : Nat, formed m = true → m.W * m.H = (T : Int) := ⟨(m.W * m.H).toNat, fun hf => by
    obtain ⟨f1, f2, -⟩ := formed_of hf
    have hp := prod_bound f1 f2
    omega⟩
  have h8 : Hid (∀ W, Calls Try.prog 8 #[] W fun e w' => Out W (.bool true) e w') := awake_any
  have h10 : Hid (FW = true → ∀ W, Below w.heap.size w W → Calls Try.prog 10 #[v, .slice p1 N1 c1, .slice p2 N2 c2] W fun e w' => OutMake W m bl gs e w') := fun h W hb => by
    rw [hFW] at h
    have := fewG_of h
    exact make_any m v _ _ bl gs W (hm.below hb) (hbl.below hb) (hgs.below hb) (by omega) (by omega)
  have h11 : Hid (FW = true → ∀ f W, (makeE m gs = 0 → Field m bl gs f) → Below w.heap.size w W → Calls Try.prog 11 #[v, .slice p1 N1 c1, .slice p2 N2 c2] W fun e w' => OutRef W m gs T f e w') := fun h f W hF hb => by
    rw [hFW] at h
    have := fewG_of h
    exact refMake_any m v bl gs p1 p2 N1 c1 N2 c2 T f W (hm.below hb) (hbl.below hb) (hgs.below hb) (by omega) (by omega) hTT hF
  have h15 : Hid (FW = true → formed m = true → ∀ f g x y W, Field m bl gs f → IB W g (rowV m f T) → inn m (x, y) = true → Below w.heap.size w W → Calls Try.prog 15 #[v, .slice p1 N1 c1, .slice p2 N2 c2, .slice (some ⟨g, 0, none⟩) T T, C x y] W fun e w' => Out W (.tuple #[C ((nextV m bl gs f (x, y)).getD (0, 0)).1 ((nextV m bl gs f (x, y)).getD (0, 0)).2, .bool (nextV m bl gs f (x, y)).isSome]) e w') := fun h hf f g x y W hF hd hin hb => by
    rw [hFW] at h
    have := fewG_of h
    exact refNext_any m v bl gs p1 p2 N1 c1 N2 c2 T g f x y W (hm.below hb) (hbl.below hb) (hgs.below hb) hf (by omega) (by omega) (hTT hf) hF hd hin
  have h16 : Hid (∀ f base s x y W, FieldAt W base s m bl gs f → Calls Try.prog 16 #[s, C x y] W fun e w' => Out W (.int .i64 (farV f (x, y))) e w') := fun f base s x y W h => far_any m s bl gs f base x y W h
  have h14 : Hid (∀ f base s x y W, FieldAt W base s m bl gs f → Calls Try.prog 14 #[s, C x y] W fun e w' => Out W (.tuple #[C ((nextV m bl gs f (x, y)).getD (0, 0)).1 ((nextV m bl gs f (x, y)).getD (0, 0)).2, .bool (nextV m bl gs f (x, y)).isSome]) e w') := fun f base s x y W h => next_any m s bl gs f base x y W h
  have h13 : Hid (formed m = true → ∀ f base s W, FieldAt W base s m bl gs f → Calls Try.prog 13 #[s] W fun e w' => OutI W (rowV m f T) e w') := fun hf f base s W h => by
    have := list_any m s bl gs f base W h hf
    have e : listV m f = rowV m f T := by unfold listV; rw [hTT hf, Int.toNat_natCast]
    rw [e] at this
    exact this
  have h13n : Hid (∀ W, Calls Try.prog 13 #[.pointer none] W fun e w' => OutI W [] e w') := list_nil
  have h12 : Hid (∀ xs p q N cap cap' W, IntsAt W (.slice p N cap) xs → IntsAt W (.slice q N cap') xs → N ≤ 1000000 → Calls Try.prog 12 #[.slice p N cap, .slice q N cap'] W fun e w' => Out W (.bool true) e w') := fun xs p q N cap cap' W h h' hN => sameInts_any xs p q N cap cap' W h h' hN
  have HRL := hid (fun f => rowV_length m f T)
  have HRG : Hid (∀ f i, i < T → (rowV m f T).getD i 0 = farV f ((i : Int) % m.W, (i : Int) / m.W)) := hid fun f i hi => rowV_get m f hi
  have HIN : Hid (formed m = true → ∀ i : Nat, i < T → inn m ((i : Int) % m.W, (i : Int) / m.W) = true) := hid fun hf i hi => cell_in hf (hTT hf) hi
  have HTT := hid hTT
  obtain ⟨q1, d1, q2, d2, rfl, -, -⟩ := hm
  have h9 : Hid (∀ W, Calls Try.prog 9 #[.agg #[.int .i64 m.W, .int .i64 m.H, .slice q1 m.ts.length d1, .slice q2 m.os.length d2], .slice p1 N1 c1, .slice p2 N2 c2] W fun e w' => Out W (.bool FW) e w') := fun W => by
    rw [hFW]; exact few_any _ _ _ _ _ _ _ _ _ _ _ _ _ _ W
  have HE0 : Hid (makeE m gs = 0 → formed m = true ∧ ∀ c ∈ gs, inn m c = true) := makeE_zero
  clear hFW hN1 hN2 hbl hgs hTT
  obtain ⟨S1, hS1⟩ : ∃ z, z = Value.slice q1 m.ts.length d1 := ⟨_, rfl⟩
  obtain ⟨S2, hS2⟩ : ∃ z, z = Value.slice q2 m.os.length d2 := ⟨_, rfl⟩
  obtain ⟨S3, hS3⟩ : ∃ z, z = Value.slice p1 N1 c1 := ⟨_, rfl⟩
  obtain ⟨S4, hS4⟩ : ∃ z, z = Value.slice p2 N2 c2 := ⟨_, rfl⟩
  obtain ⟨mW, hmW⟩ : ∃ z, z = m.W := ⟨_, rfl⟩
  obtain ⟨mH, hmH⟩ : ∃ z, z = m.H := ⟨_, rfl⟩
  have HMW := hid (fun (_ : Nat) => And.intro hmW hmH)
  rw [← hS1, ← hS2, ← hmW, ← hmH] at h10 h11 h15 h9 ⊢
  rw [← hS3, ← hS4] at h9 h10 h11 h15 ⊢
  rw [← hmW] at HRG HIN
  unfold OutMake at h10
  unfold OutRef at h11
  obtain ⟨E, hE⟩ : ∃ E, E = makeE m gs := ⟨_, rfl⟩
  rw [← hE] at h10 h11 HE0
  clear hS1 hS2 hS3 hS4 hmW hmH hE
  unfold C Out OutI at *
  go_enter Try.func3, Try.ntmps3
  go_upto_region 1 with fail
  obtain ⟨W, hW⟩ : ∃ W, W = w.alloc (.cells #[Value.int .i64 mW, .int .i64 mH, S1, S2] 24) := ⟨_, rfl⟩
  obtain ⟨B, hB⟩ : ∃ B, B = w.heap.size := ⟨_, rfl⟩
  rw [← hW, ← hB]
  have hsz : W.heap.size = B + 1 := by rw [hW, hB]; simp
  have hbk : Blk W B [Value.int .i64 mW, .int .i64 mH, S1, S2] 24 := by rw [hW, hB]; exact Blk.new _ _ _
  have HBE : Hid (∀ w', Below (B + 1) W w' → Below B w w') := by
    intro w' h
    have h1 : Below w.heap.size w W := by rw [hW]; exact (Below.refl _ _).alloc (Nat.le_refl _) _
    rw [← hB] at h1
    exact h1.trans (h.mono (by omega))
  have HK : Hid (∀ w', Below (B + 1) W w' → w'.cell? ⟨B, 0, none⟩ = some (.int .i64 mW) ∧ w'.cell? ⟨B, 1, none⟩ = some (.int .i64 mH) ∧ w'.cell? ⟨B, 2, none⟩ = some S1 ∧ w'.cell? ⟨B, 3, none⟩ = some S2) := fun w' h => by
    have := hbk.below h (by omega)
    exact ⟨this.cell 0, this.cell 1, this.cell 2, this.cell 3⟩
  have HB := hid (fun (_ : Nat) => hB)
  have HB0 := hid (Below.refl (B + 1) W)
  rw [← hB] at h10 h11 h15
  clear hW hB hbk
  go_wp2_with fail
  refine Calls.mono (h8.out W) ?_
  rintro e w1 ⟨rfl, hb1⟩
  have HB1 : Hid (Below (B + 1) W w1) := by rw [← hsz]; exact hid hb1
  clear hb1 HB0
  obtain ⟨a0, a1, a2, a3⟩ := HK.out _ HB1.out
  go_wp2_with fail
  refine Calls.mono (h9.out w1) ?_
  rintro e w2 ⟨rfl, hb2⟩
  have HB2 : Hid (Below (B + 1) W w2) := HB1.out.trans (hb2.mono (by rw [← hsz]; exact HB1.out.size))
  clear hb2 HB1 a0 a1 a2 a3
  cases hFW : FW with
  | false =>
    go_wp2_with fail
    refine Calls.mono (h8.out w2) ?_
    rintro e w3 ⟨rfl, hb3⟩
    have HB3 : Hid (Below (B + 1) W w3) := HB2.out.trans (hb3.mono (by rw [← hsz]; exact HB2.out.size))
    clear hb3
    go_wp2
    go_ret
    have HE := HBE.out _ HB3.out
    rw [HB.out 0] at HE
    first
      | exact ⟨rfl, HE⟩
      | exact HE
  | true =>
    obtain ⟨a0, a1, a2, a3⟩ := HK.out _ HB2.out
    have H10 := hid (h10.out hFW)
    have H11 := hid (h11.out hFW)
    have H15 := hid (h15.out hFW)
    clear h10 h11 h15 h8 h9 hFW
    go_wp2_with fail
    refine Calls.mono (H10.out w2 (HBE.out _ HB2.out)) ?_
    rintro e w3 ⟨s, rfl, hb3, hne, heq⟩
    have HB3 : Hid (Below (B + 1) W w3) := HB2.out.trans (hb3.mono (by rw [← hsz]; exact HB2.out.size))
    clear a0 a1 a2 a3 hb3
    by_cases hE0 : E = 0
    · obtain ⟨f, hfi, hfa⟩ := heq hE0
      obtain ⟨hfm, hgi⟩ := HE0.out hE0
      subst hE0
      have HFI := hid hfi
      have HFA : Hid (FieldAt w3 (B + 1) s m bl gs f) := hfa.mono (by rw [← hsz]; exact HB2.out.size)
      obtain ⟨fb, bf, bn, rfl, -⟩ := hfa
      have H11' := hid (fun W h => H11.out f W (fun _ => HFI.out) h)
      have H15' := hid (H15.out hfm f)
      have H13 := hid (h13.out hfm f)
      have HIN' := hid (HIN.out hfm)
      have hT := HTT.out hfm
      obtain ⟨f1, f2, -⟩ := formed_of hfm
      have hp := prod_bound f1 f2
      obtain ⟨e1, e2⟩ := HMW.out 0
      rw [← e1] at f1
      have hT4 : T ≤ 400 := by omega
      obtain ⟨a0, a1, a2, a3⟩ := HK.out _ HB3.out
      clear heq hne hfi H10 HB2 HE0 H11 H15 h13 HIN e1 e2 hp hT f2 hfm hgi h13n
      go_wp2_with fail
      refine Calls.mono (H11'.out w3 (HBE.out _ HB3.out)) ?_
      rintro e w4 ⟨s4, rfl, hb4, -, hs4⟩
      obtain ⟨g, rfl, hib⟩ := hs4 (by first | rfl | trivial)
      have HIB := hid hib
      have HB4 : Hid (Below (B + 1) W w4) := HB3.out.trans (hb4.mono (by rw [← hsz]; exact HB3.out.size))
      have HF4 := hid (HFA.out.below hb4)
      clear hb4 hs4 hib HFA HB3 a0 a1 a2 a3 H11'
      go_wp2_with fail
      refine Calls.mono (H13.out _ _ w4 HF4.out) ?_
      rintro e w5 ⟨s5, rfl, ho5, hb5⟩
      obtain ⟨p5, k5, rfl⟩ := ho5.form
      have HO5 := hid ho5
      have HI5 : Hid (IB w5 g (rowV m f T)) := hid (Blk.below HIB.out hb5 (Blk.lt HIB.out))
      have HF5 := hid (HF4.out.below hb5)
      have HB5 : Hid (Below (B + 1) W w5) := HB4.out.trans (hb5.mono (by rw [← hsz]; exact HB4.out.size))
      simp only [HRL.out f] at HO5 ⊢
      clear ho5 hb5 HIB HF4 HB4 H13
      go_wp2_with fail
      refine Calls.mono (h12.out (rowV m f T) p5 (some ⟨g, 0, none⟩) T k5 T w5 HO5.out.ints (HI5.out.ints (HRL.out f)) (by omega)) ?_
      rintro e w6 ⟨rfl, hb6⟩
      have HI6 : Hid (IB w6 g (rowV m f T)) := hid (Blk.below HI5.out hb6 (Blk.lt HI5.out))
      have HF6 := hid (HF5.out.below hb6)
      have HB6 : Hid (Below (B + 1) W w6) := HB5.out.trans (hb6.mono (by rw [← hsz]; exact HB5.out.size))
      clear hb6 HI5 HF5 HB5 HO5 h12
      obtain ⟨P, hP⟩ : ∃ P, P = w6.heap.size := ⟨_, rfl⟩
      have HPE := hid (fun (_ : Nat) => hP)
      have hPB : B + 1 ≤ P := by rw [hP, ← hsz]; exact HB6.out.size
      have HR0 : Hid (Below P w6 w6) := Below.refl _ _
      have HFT : Hid (∀ W', Below P w6 W' → FieldAt W' (B + 1) (.pointer (some ⟨fb, 0, none⟩)) m bl gs f) := fun W' h => HF6.out.below (by rw [← hP]; exact h)
      have HBT : Hid (∀ W', Below P w6 W' → Below (B + 1) W W') := fun W' h => HB6.out.trans (h.mono hPB)
      have HDT : Hid (∀ W', Below P w6 W' → IB W' g (rowV m f T)) := fun W' h => Blk.below HI6.out h (by rw [hP]; exact Blk.lt HI6.out)
      clear hP HB6 HF6 HI6
      go_upto_region 8 with fail
      go_loopw [11] (fun iv wr => ∃ i : Nat, i ≤ T ∧ iv = .int .i64 (i : Int) ∧ Hid (Below P w6 wr)) (fun iv _ => T - (intOf iv).toNat)
      case atStart => exact ⟨0, by omega, rfl, HR0⟩
      case round =>
        clear HR0
        obtain ⟨i, hi, rfl, HR1⟩ := hrel
        by_cases hl : i < T
        · have hl' : (i : Int) < (T : Int) := by omega
          have HIT := hid hl
          have hin0 := HIN'.out i hl
          have hrg := HRG.out f i hl
          obtain ⟨a0, a1, a2, a3⟩ := HK.out _ (HBT.out _ HR1.out)
          clear hl hi
          go_upto_region 10 with fail
          have hj0 : (0 : Int) ≤ (i : Int) := by omega
          have hz : (mW = 0) = False := by simp; omega
          have ht1 : (i : Int).tmod mW = (i : Int) % mW := Int.tmod_eq_emod_of_nonneg hj0
          have ht2 : (i : Int).tdiv mW = (i : Int) / mW := Int.tdiv_eq_ediv_of_nonneg hj0
          have hq1 : 0 ≤ (i : Int) / mW := Int.ediv_nonneg hj0 (by omega)
          have hq2 : (i : Int) / mW ≤ 9223372036854775807 := by have := Int.ediv_le_self mW hj0; omega
          obtain ⟨x, hx⟩ : ∃ x, x = (i : Int) % mW := ⟨_, rfl⟩
          obtain ⟨y, hy⟩ : ∃ y, y = (i : Int) / mW := ⟨_, rfl⟩
          rw [← hx] at ht1
          rw [← hy] at ht2 hq1 hq2
          rw [← hx, ← hy] at hin0 hrg
          clear hx hy
          have hwy : IntKind.i64.wrap y = y := by rw [IntKind.wrap_i64]; omega
          have b0 : ∀ z : Nx wr, z.w.cell? ⟨B, 0, none⟩ = some (.int .i64 mW) := fun z => (HK.out z.w ((HBT.out _ HR1.out).trans (z.h.mono (by have := HR1.out.size; have := HPE.out 0; omega)))).1
          clear a0 a1 a2 a3 hq1 hq2
          refine wp_region_calm (S := fun w' => ∃ z : Nx wr, w' = z.w) [(0, false), (1, false), (2, false), (3, false), (4, false), (5, false), (6, false), (7, false), (8, false), (9, true), (10, true)] (by kernel_rfl) (by kernel_rfl) rfl (by kernel_rfl) ⟨⟨wr.drew, below_drew (Below.refl _ _)⟩, rfl⟩ ?_
          repeat (refine plan_take rfl (fun K hK => ?_); go_simp; refine ⟨_, fun _ => rfl, hK _ ?_⟩; clear hK K)
          refine plan_turn rfl (fun K hK => ?_)
          go_simp
          obtain ⟨V, hV⟩ : ∃ V, V = (wr.alloc (.cells #[Value.int .i64 0, .int .i64 0] 37)).drew := ⟨_, rfl⟩
          obtain ⟨gc, hgc⟩ : ∃ gc, gc = wr.heap.size := ⟨_, rfl⟩
          rw [← hV, ← hgc]
          have HBV : Hid (Below gc wr V) := by rw [hV, hgc]; exact below_drew ((Below.refl _ _).alloc (Nat.le_refl _) _)
          have HG : Hid (Blk V gc [.int .i64 0, .int .i64 0] 37) := by rw [hV, hgc]; exact Blk.new wr _ _
          have hPg : P ≤ gc := by rw [hgc, HPE.out 0]; exact HR1.out.size
          have HGE := hid (fun (_ : Nat) => hgc)
          clear hV hgc
          refine hK _ _ ⟨⟨V, by rw [← HGE.out 0]; exact HBV.out⟩, rfl⟩ ?_
          clear hK K
          have g0 : V.cell? ⟨gc, 0, none⟩ = some (.int .i64 0) := HG.out.cell 0
          have g1 : V.cell? ⟨gc, 1, none⟩ = some (.int .i64 0) := HG.out.cell 1
          have z0 := HG.out.frozen 0
          have z1 := HG.out.frozen 1
          refine plan_turn rfl (fun K hK => ?_)
          go_simp
          obtain ⟨U, hU⟩ : ∃ U, U = (V.setCell ⟨gc, 0, none⟩ (.int .i64 x)).setCell ⟨gc, 1, none⟩ (.int .i64 y) := ⟨_, rfl⟩
          rw [← hU]
          have hTU : Turn gc V U := by rw [hU]; exact turn_two _ _ _ _
          have HBU : Hid (Below gc wr U) := HBV.out.trans (hTU.below (Nat.le_refl _))
          have HGU : Hid (Blk U gc [.int .i64 x, .int .i64 y] 37) := by rw [hU]; exact (HG.out.set 0 _).set 1 _
          clear hU hTU g0 g1 z0 z1 HG HBV b0
          refine hK _ _ ⟨⟨U, by rw [← HGE.out 0]; exact HBU.out⟩, rfl⟩ ?_
          clear hK K
          refine plan_done ⟨rfl, ?_⟩
          have HRU : Hid (Below P w6 U) := HR1.out.trans (HBU.out.mono hPg)
          clear ht1 ht2 hwy hz hl' hj0 HBU HR1
          have g0 : U.cell? ⟨gc, 0, none⟩ = some (.int .i64 x) := HGU.out.cell 0
          have g1 : U.cell? ⟨gc, 1, none⟩ = some (.int .i64 y) := HGU.out.cell 1
          obtain ⟨a0, a1, a2, a3⟩ := HK.out _ (HBT.out _ HRU.out)
          have hi0 : (0 : Int) ≤ (i : Int) := by omega
          have hiT : (i : Int) < (T : Int) := by have := HIT.out; omega
          have HNX := hid (fun W h => h14.out f _ _ x y W (HFT.out W h))
          have HRN := hid (fun W h => H15'.out g x y W HFI.out (HDT.out W h) hin0 (HBE.out _ (HBT.out _ h)))
          have HFR := hid (fun W h => h16.out f _ _ x y W (HFT.out W h))
          obtain ⟨NV, hNV⟩ : ∃ NV, NV = nextV m bl gs f (x, y) := ⟨_, rfl⟩
          rw [← hNV] at HNX HRN
          obtain ⟨n1, hn1⟩ : ∃ n, n = (NV.getD (0, 0)).1 := ⟨_, rfl⟩
          obtain ⟨n2, hn2⟩ : ∃ n, n = (NV.getD (0, 0)).2 := ⟨_, rfl⟩
          obtain ⟨sv, hsv⟩ : ∃ s, s = NV.isSome := ⟨_, rfl⟩
          rw [← hn1, ← hn2, ← hsv] at HNX HRN
          obtain ⟨vf, hvf⟩ : ∃ vf, vf = farV f (x, y) := ⟨_, rfl⟩
          rw [← hvf] at HFR hrg
          have HDC : Hid (∀ W', Below P w6 W' → W'.cell? ⟨g, i, none⟩ = some (.int .i64 vf)) := hid fun W' h => by
            rw [← hrg]
            exact (HDT.out W' h).cell (by rw [HRL.out f]; exact HIT.out)
          clear hNV hn1 hn2 hsv hvf hrg hin0
          have HW1 : Hid (wrap64 ((i : Int) + 1) = (i : Int) + 1) := hid (wrap_small (by omega))
          go_wp2_with fail
          refine Calls.mono (HNX.out U HRU.out) ?_
          rintro e w7 ⟨rfl, hb7⟩
          have HG7 : Hid (Blk w7 gc [.int .i64 x, .int .i64 y] 37) := hid (HGU.out.below hb7 HGU.out.lt)
          have HR7 : Hid (Below P w6 w7) := HRU.out.trans (hb7.mono (by have := HGU.out.lt; omega))
          clear hb7 HGU HRU g0 g1 a0 a1 a2 a3 HNX
          obtain ⟨U2, hU⟩ : ∃ U2, U2 = w7.alloc (.cells #[Value.int .i64 n1, .int .i64 n2] 37) := ⟨_, rfl⟩
          obtain ⟨ga, hga⟩ : ∃ ga, ga = w7.heap.size := ⟨_, rfl⟩
          have HUB : Hid (Below ga w7 U2) := by rw [hU, hga]; exact (Below.refl _ _).alloc (Nat.le_refl _) _
          have HUA : Hid (Blk U2 ga [.int .i64 n1, .int .i64 n2] 37) := by rw [hU, hga]; exact Blk.new _ _ _
          have hgl : gc < ga := by rw [hga]; exact HG7.out.lt
          have HG8 : Hid (Blk U2 gc [.int .i64 x, .int .i64 y] 37) := HG7.out.below HUB.out hgl
          have HR8 : Hid (Below P w6 U2) := HR7.out.trans (HUB.out.mono (by omega))
          go_upto_region 12 with fail
          rw [← hU, ← hga]
          clear hU hga HUB HG7 HR7
          have g0 : U2.cell? ⟨gc, 0, none⟩ = some (.int .i64 x) := HG8.out.cell 0
          have g1 : U2.cell? ⟨gc, 1, none⟩ = some (.int .i64 y) := HG8.out.cell 1
          obtain ⟨a0, a1, a2, a3⟩ := HK.out _ (HBT.out _ HR8.out)
          go_wp2_with fail
          refine Calls.mono (HRN.out U2 HR8.out) ?_
          rintro e w9 ⟨rfl, hb9⟩
          have HA9 : Hid (Blk w9 ga [.int .i64 n1, .int .i64 n2] 37) := hid (HUA.out.below hb9 HUA.out.lt)
          have HG9 : Hid (Blk w9 gc [.int .i64 x, .int .i64 y] 37) := hid (HG8.out.below hb9 HG8.out.lt)
          have HR9 : Hid (Below P w6 w9) := HR8.out.trans (hb9.mono (by have := HUA.out.lt; omega))
          clear hb9 HUA HG8 HR8 g0 g1 a0 a1 a2 a3 HRN
          obtain ⟨U3, hU⟩ : ∃ U3, U3 = w9.alloc (.cells #[Value.int .i64 n1, .int .i64 n2] 37) := ⟨_, rfl⟩
          obtain ⟨gb, hgb⟩ : ∃ gb, gb = w9.heap.size := ⟨_, rfl⟩
          have HUB : Hid (Below gb w9 U3) := by rw [hU, hgb]; exact (Below.refl _ _).alloc (Nat.le_refl _) _
          have HUC : Hid (Blk U3 gb [.int .i64 n1, .int .i64 n2] 37) := by rw [hU, hgb]; exact Blk.new _ _ _
          have hgl2 : ga < gb := by rw [hgb]; exact HA9.out.lt
          have HA10 : Hid (Blk U3 ga [.int .i64 n1, .int .i64 n2] 37) := HA9.out.below HUB.out hgl2
          have HG10 : Hid (Blk U3 gc [.int .i64 x, .int .i64 y] 37) := HG9.out.below HUB.out (by omega)
          have HR10 : Hid (Below P w6 U3) := HR9.out.trans (HUB.out.mono (by omega))
          go_upto_region 13 with fail
          rw [← hU, ← hgb]
          clear hU hgb HUB HA9 HG9 HR9
          have g0 : U3.cell? ⟨gc, 0, none⟩ = some (.int .i64 x) := HG10.out.cell 0
          have g1 : U3.cell? ⟨gc, 1, none⟩ = some (.int .i64 y) := HG10.out.cell 1
          have g2 : U3.cell? ⟨ga, 0, none⟩ = some (.int .i64 n1) := HA10.out.cell 0
          have g3 : U3.cell? ⟨ga, 1, none⟩ = some (.int .i64 n2) := HA10.out.cell 1
          have g4 : U3.cell? ⟨gb, 0, none⟩ = some (.int .i64 n1) := HUC.out.cell 0
          have g5 : U3.cell? ⟨gb, 1, none⟩ = some (.int .i64 n2) := HUC.out.cell 1
          have g6 := HDC.out _ HR10.out
          have HCALL := hid (HFR.out _ (below_drew HR10.out))
          have hPU : P ≤ U3.heap.size := by have := HUC.out.lt; omega
          have HRW : Hid (∀ w', Below U3.drew.heap.size U3.drew w' → Below P w6 w') := hid fun w' h => (below_drew HR10.out).trans (h.mono hPU)
          have HPU := hid hPU
          clear HFR hgl hgl2 hPg hPU
          have k0 : ∀ z : Nx U3, z.w.cell? ⟨gc, 0, none⟩ = some (.int .i64 x) := fun z => (HG10.out.below z.h HG10.out.lt).cell 0
          have k1 : ∀ z : Nx U3, z.w.cell? ⟨gc, 1, none⟩ = some (.int .i64 y) := fun z => (HG10.out.below z.h HG10.out.lt).cell 1
          have k2 : ∀ z : Nx U3, z.w.cell? ⟨ga, 0, none⟩ = some (.int .i64 n1) := fun z => (HA10.out.below z.h HA10.out.lt).cell 0
          have k3 : ∀ z : Nx U3, z.w.cell? ⟨ga, 1, none⟩ = some (.int .i64 n2) := fun z => (HA10.out.below z.h HA10.out.lt).cell 1
          have k4 : ∀ z : Nx U3, z.w.cell? ⟨gb, 0, none⟩ = some (.int .i64 n1) := fun z => (HUC.out.below z.h HUC.out.lt).cell 0
          have k5 : ∀ z : Nx U3, z.w.cell? ⟨gb, 1, none⟩ = some (.int .i64 n2) := fun z => (HUC.out.below z.h HUC.out.lt).cell 1
          have k6 : ∀ z : Nx U3, z.w.cell? ⟨g, i, none⟩ = some (.int .i64 vf) := fun z => HDC.out _ (HR10.out.trans (z.h.mono HPU.out))
          clear g0 g1 g2 g3 g4 g5 g6
          refine wp_region_fork2 (S := fun w' => ∃ z : Nx U3, w' = z.w) [0, 1, 2, 3, 4, 5, 6, 7, 8, 9, 10, 12, 13] 11 14 [(14, true), (15, false), (16, false), (17, false)] [(15, false), (11, true), (16, false), (17, false)] (by kernel_rfl) (by kernel_rfl) rfl rfl (by kernel_rfl) ⟨⟨U3.drew, below_drew (Below.refl _ _)⟩, rfl⟩ ?_
          repeat (refine fork2_take rfl (fun K hK => ?_); go_simp; refine ⟨_, fun _ => rfl, hK _ ?_⟩; clear hK K)
          refine fork2_both ?_ ?_
          · refine plan_turn rfl (fun K hK => ?_)
            go_simp
            refine Calls.mono HCALL.out ?_
            rintro e w11 ⟨rfl, hb11⟩
            have hn11 : Below U3.heap.size U3 w11 := ⟨hb11.os, hb11.tape, hb11.output, hb11.size, hb11.block⟩
            refine hK _ _ ⟨⟨w11, hn11⟩, rfl⟩ ?_
            clear hK K
            refine plan_turn rfl (fun K hK => ?_)
            go_simp
            refine hK _ _ ⟨⟨w11, hn11⟩, rfl⟩ ?_
            clear hK K
            repeat (refine plan_take rfl (fun K hK => ?_); go_simp; refine ⟨_, fun _ => rfl, hK _ ?_⟩; clear hK K)
            refine plan_done ⟨rfl, ?_⟩
            have HR11 : Hid (Below P w6 w11) := hid (HR10.out.trans (hn11.mono HPU.out))
            clear k0 k1 k2 k3 k4 k5 k6 hn11 hb11
            go_wp2
            go_roundw
            case rel => exact ⟨i + 1, HIT.out, by first | (rw [HW1.out]; simp) | simp, HR11⟩
            case measure =>
              have := HIT.out
              first
                | (rw [HW1.out]; simp [intOf]; omega)
                | (simp [intOf]; omega)
          · refine plan_turn rfl (fun K hK => ?_)
            go_simp
            refine hK _ _ ⟨⟨U3.drew, below_drew (Below.refl _ _)⟩, rfl⟩ ?_
            clear hK K
            repeat (refine plan_take rfl (fun K hK => ?_); go_simp; refine ⟨_, fun _ => rfl, hK _ ?_⟩; clear hK K)
            refine plan_turn rfl (fun K hK => ?_)
            go_simp
            refine Calls.mono HCALL.out ?_
            rintro e w11 ⟨rfl, hb11⟩
            have hn11 : Below U3.heap.size U3 w11 := ⟨hb11.os, hb11.tape, hb11.output, hb11.size, hb11.block⟩
            refine hK _ _ ⟨⟨w11, hn11⟩, rfl⟩ ?_
            clear hK K
            repeat (refine plan_take rfl (fun K hK => ?_); go_simp; refine ⟨_, fun _ => rfl, hK _ ?_⟩; clear hK K)
            refine plan_done ⟨rfl, ?_⟩
            have HR11 : Hid (Below P w6 w11) := hid (HR10.out.trans (hn11.mono HPU.out))
            clear k0 k1 k2 k3 k4 k5 k6 hn11 hb11
            go_wp2
            go_roundw
            case rel => exact ⟨i + 1, HIT.out, by first | (rw [HW1.out]; simp) | simp, HR11⟩
            case measure =>
              have := HIT.out
              first
                | (rw [HW1.out]; simp [intOf]; omega)
                | (simp [intOf]; omega)
        · obtain rfl : i = T := by omega
          have hl' : ((i : Int) < (i : Int)) = False := by simp
          clear hl hi
          have HE := HBE.out _ (HBT.out _ HR1.out)
          rw [HB.out 0] at HE
          go_wp2
          go_ret
          first
            | exact ⟨rfl, HE⟩
            | exact HE
    · have := hne hE0
      subst this
      have hne' : (E != 0) = true := by simpa using hE0
      obtain ⟨a0, a1, a2, a3⟩ := HK.out _ HB3.out
      clear heq
      go_wp2_with fail
      refine Calls.mono (H11.out (fun _ => none) w3 (fun h => absurd h hE0) (HBE.out _ HB3.out)) ?_
      rintro e w4 ⟨s4, rfl, hb4, hs4, -⟩
      have := hs4 hE0
      subst this
      have HB4 : Hid (Below (B + 1) W w4) := HB3.out.trans (hb4.mono (by rw [← hsz]; exact HB3.out.size))
      clear hs4 hb4 a0 a1 a2 a3 hne
      go_wp2_with fail
      refine Calls.mono (h13n.out w4) ?_
      rintro e w5 ⟨s5, rfl, ho5, hb5⟩
      obtain ⟨p5, k5, rfl⟩ := ho5.form
      simp only [List.length_nil] at ho5 ⊢
      have HO5 := hid ho5
      have HB5 : Hid (Below (B + 1) W w5) := HB4.out.trans (hb5.mono (by rw [← hsz]; exact HB4.out.size))
      clear ho5 hb5 HB4
      go_wp2_with fail
      refine Calls.mono (h12.out [] p5 none 0 k5 0 w5 HO5.out.ints ⟨none, 0, rfl, by simp, (fun _ => rfl), fun h => absurd rfl h⟩ (by omega)) ?_
      rintro e w6 ⟨rfl, hb6⟩
      have HB6 : Hid (Below (B + 1) W w6) := HB5.out.trans (hb6.mono (by rw [← hsz]; exact HB5.out.size))
      have HE := HBE.out _ HB6.out
      rw [HB.out 0] at HE
      clear hb6 hE0
      go_upto_region 8 with fail
      go_loopw [11] (fun iv wr => iv = .int .i64 0 ∧ Hid (wr = w6)) (fun _ _ => 0)
      case atStart => exact ⟨rfl, hid rfl⟩
      case round =>
        obtain ⟨rfl, hw⟩ := hrel
        have hw := hw.out
        subst hw
        go_wp2
        go_ret
        first
          | exact ⟨rfl, HE⟩
          | exact HE
end Go.Proofs.Ytgkjlfpkhpnpfaa
