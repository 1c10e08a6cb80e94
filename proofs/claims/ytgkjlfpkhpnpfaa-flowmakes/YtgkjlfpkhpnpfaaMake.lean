/- A field is made: Make. -/
import Derived.Test.YtgkjlfpkhpnpfaaLead
namespace Go.Proofs.Ytgkjlfpkhpnpfaa
open Go.RowKit
def makeE (m : Mp) (gs : List Cl) : Int := if formed m then (if gs.all (inn m) then 0 else 2) else 4
/-- A field that lies in the call's own blocks. -/
def FieldAt (w : World) (base : Nat) (v : Value) (m : Mp) (bl gs : List Cl) (f : Cl → Option Nat) : Prop := ∃ fb bf bn, v = .pointer (some ⟨fb, 0, none⟩) ∧ (base ≤ fb ∧ base ≤ bf ∧ base ≤ bn) ∧
  Blk w fb [.int .i64 m.W, .int .i64 m.H, .map (some bf), .map (some bn)] 59 ∧ FMap w bf (valF f) ∧ FMap w bn (fun c => (nextV m bl gs f c).map cv)
theorem FieldAt.below {w w' : World} {base : Nat} {v : Value} {m : Mp} {bl gs : List Cl} {f : Cl → Option Nat} (h : FieldAt w base v m bl gs f) (hb : Below w.heap.size w w') : FieldAt w' base v m bl gs f := by
  obtain ⟨fb, bf, bn, rfl, hl, h1, h2, h3⟩ := h
  exact ⟨fb, bf, bn, rfl, hl, h1.below hb h1.lt, h2.below hb h2.lt, h3.below hb h3.lt⟩
theorem FieldAt.mono {w : World} {base base' : Nat} {v : Value} {m : Mp} {bl gs : List Cl} {f : Cl → Option Nat} (h : FieldAt w base v m bl gs f) (hb : base' ≤ base) : FieldAt w base' v m bl gs f := by
  obtain ⟨fb, bf, bn, e, hl, h⟩ := h
  exact ⟨fb, bf, bn, e, by omega, h⟩
def OutMake (w : World) (m : Mp) (bl gs : List Cl) (e : Ending) (w' : World) : Prop := ∃ s, e = .returned (.tuple #[s, .int .i64 (makeE m gs)]) ∧ Below w.heap.size w w' ∧ (makeE m gs ≠ 0 → s = .pointer none) ∧ (makeE m gs = 0 → ∃ f, Field m bl gs f ∧ FieldAt w' w.heap.size s m bl gs f)
theorem makeE_form {m : Mp} {gs : List Cl} (h : formed m = false) : makeE m gs = 4 := by unfold makeE; rw [if_neg (by simp [h])]
theorem makeE_range {m : Mp} {gs : List Cl} (h : formed m = true) {c : Cl} (hc : c ∈ gs) (hi : inn m c = false) : makeE m gs = 2 := by
  unfold makeE
  rw [if_pos h, if_neg]
  rw [List.all_eq_true]
  intro ha
  have := ha c hc
  rw [hi] at this; cases this
theorem makeE_ok {m : Mp} {gs : List Cl} (h : formed m = true) (ha : ∀ c ∈ gs, inn m c = true) : makeE m gs = 0 := by
  unfold makeE
  rw [if_pos h, if_pos (List.all_eq_true.2 ha)]
set_option maxRecDepth 4000 in
set_option maxHeartbeats 4000000 in
theorem make_any (m : Mp) (v u t : Value) (bl gs : List Cl) (w : World) (hm : MapAt w v m) (hbl : CellsAt w u bl) (hgs : CellsAt w t gs) (hN : bl.length ≤ 1000) (hG : gs.length ≤ 1000) :
    Calls Try.prog 10 #[v, u, t] w fun e w' => OutMake w m bl gs e w' := by
  have h23 : Hid (∀ W, Below w.heap.size w W → Calls Try.prog 23 #[v] W fun e w' => Out W (.bool (formed m)) e w') := fun W h => formed_any m v W (hm.below h)
  have h24 : Hid (∀ W, Below w.heap.size w W → Calls Try.prog 24 #[t] W fun e w' => OutF W (setF gs gs.length) e w') := fun W h => setOf_any t gs W (hgs.below h) hG
  have h25 : Hid (∀ x y W, Below w.heap.size w W → Calls Try.prog 25 #[v, C x y] W fun e w' => Out W (.bool (formed m && inn m (x, y))) e w') := fun x y W h => inside_any m v x y W (hm.below h)
  have h26 : Hid (formed m = true → ∀ be W, Below w.heap.size w W → FMap W be (setF gs gs.length) → Calls Try.prog 26 #[v, u, .map (some be)] W fun e w' => OutF W (shutG m bl gs) e w') := fun hf be W h hs => closedG_any m v u bl gs be W (hm.below h) (hbl.below h) hs hf hN
  have h27 : Hid (formed m = true → (∀ c ∈ gs, inn m c = true) → ∀ b9 W, Below w.heap.size w W → FMap W b9 (shutG m bl gs) → Calls Try.prog 27 #[v, .map (some b9), t] W fun e w' => OutG W m bl gs e w') := fun hf hi b9 W h hs => measureG_any m v t bl gs b9 W (hm.below h) hs (hgs.below h) hf hG hi
  have h28 : Hid (formed m = true → ∀ f b9 bF W, Below w.heap.size w W → FMap W b9 (shutG m bl gs) → FMap W bF (valF f) → Field m bl gs f → Calls Try.prog 28 #[v, .map (some b9), .map (some bF)] W fun e w' => OutL W m bl gs f e w') := fun hf f b9 bF W h hs hF hx => lead_any m v bl gs f b9 bF W (hm.below h) hs hF hf hx.few
  have HE1 : Hid (formed m = false → makeE m gs = 4) := makeE_form
  have HE2 : Hid (∀ c, formed m = true → c ∈ gs → inn m c = false → makeE m gs = 2) := fun c h hc hi => makeE_range h hc hi
  have HE3 : Hid (formed m = true → (∀ c ∈ gs, inn m c = true) → makeE m gs = 0) := makeE_ok
  have HSM : Hid (∀ c z, setF gs gs.length c = some z → c ∈ gs) := fun c z h => setF_mem h
  have HSI : Hid (∀ c, c ∈ gs → (setF gs gs.length c).isSome = true) := fun c h => by
    unfold setF
    rw [List.take_length, if_pos (by simpa using h)]; rfl
  unfold OutMake
  obtain ⟨E, hE⟩ : ∃ E, E = makeE m gs := ⟨_, rfl⟩
  rw [← hE] at HE1 HE2 HE3 ⊢
  obtain ⟨p, c, q, d, rfl, -, -⟩ := hm
  obtain ⟨r, rc, rfl, -⟩ := hbl
  obtain ⟨r2, rc2, rfl, -⟩ := hgs
  obtain ⟨S1, hS1⟩ : ∃ z, z = Value.slice p m.ts.length c := ⟨_, rfl⟩
  obtain ⟨S2, hS2⟩ : ∃ z, z = Value.slice q m.os.length d := ⟨_, rfl⟩
  obtain ⟨S3, hS3⟩ : ∃ z, z = Value.slice r bl.length rc := ⟨_, rfl⟩
  obtain ⟨S4, hS4⟩ : ∃ z, z = Value.slice r2 gs.length rc2 := ⟨_, rfl⟩
  obtain ⟨S, hS⟩ : ∃ S, S = setF gs gs.length := ⟨_, rfl⟩
  unfold FieldAt
  obtain ⟨mW, hmW⟩ : ∃ z, z = m.W := ⟨_, rfl⟩
  obtain ⟨mH, hmH⟩ : ∃ z, z = m.H := ⟨_, rfl⟩
  rw [← hS1, ← hS2, ← hmW, ← hmH] at h23 h25 h26 h27 h28
  rw [← hmW, ← hmH, ← hS1, ← hS2, ← hS3, ← hS4]
  rw [← hS3] at h26
  rw [← hS4] at h24 h27
  rw [← hS] at h24 h26 HSM HSI
  clear hS1 hS2 hS3 hS4 hmW hmH hS hE hN hG
  unfold C at *
  go_enter Try.func10, Try.ntmps10
  go_upto_region 1 with fail
  obtain ⟨W, hW⟩ : ∃ W, W = w.alloc (.cells #[Value.int .i64 mW, .int .i64 mH, S1, S2] 24) := ⟨_, rfl⟩
  obtain ⟨B, hB⟩ : ∃ B, B = w.heap.size := ⟨_, rfl⟩
  rw [← hW, ← hB]
  have hsz : W.heap.size = B + 1 := by rw [hW, hB]; simp
  have hbe : ∀ w', Below (B + 1) W w' → Below B w w' := by
    intro w' h
    have h1 : Below w.heap.size w W := by rw [hW]; exact (Below.refl _ _).alloc (Nat.le_refl _) _
    rw [← hB] at h1
    exact h1.trans (h.mono (by omega))
  have hbk : Blk W B [Value.int .i64 mW, .int .i64 mH, S1, S2] 24 := by rw [hW, hB]; exact Blk.new _ _ _
  have hk : ∀ w', Below (B + 1) W w' → w'.cell? ⟨B, 0, none⟩ = some (.int .i64 mW) ∧ w'.cell? ⟨B, 1, none⟩ = some (.int .i64 mH) ∧ w'.cell? ⟨B, 2, none⟩ = some S1 ∧ w'.cell? ⟨B, 3, none⟩ = some S2 := fun w' h => by
    have := hbk.below h (by omega)
    exact ⟨this.cell 0, this.cell 1, this.cell 2, this.cell 3⟩
  rw [← hB] at h23 h24 h25 h26 h27 h28
  obtain ⟨a0, a1, a2, a3⟩ := hk W (Below.refl _ _)
  have HK := hid hk
  have HBE := hid hbe
  have HB := hid (fun (_ : Nat) => hB)
  have HB0 := hid (Below.refl (B + 1) W)
  clear hW hB hk hbe hbk
  go_wp2_with fail
  refine Calls.mono (h23.out _ (HBE.out W HB0.out)) ?_
  rintro e w1 ⟨rfl, hb1⟩
  have HB1 : Hid (Below (B + 1) W w1) := by rw [← hsz]; exact hid hb1
  clear hb1 a0 a1 a2 a3 HB0
  rcases hf : formed m with _ | _
  · have hr := HE1.out hf
    subst hr
    go_wp2
    go_ret2
    have HE := HBE.out _ HB1.out
    rw [HB.out 0] at HE
    exact ⟨_, rfl, HE, fun _ => rfl, fun h => by cases h⟩
  · have H26 := hid (h26.out hf)
    have H27 := hid (h27.out hf)
    have H28 := hid (h28.out hf)
    have HE2' := hid (fun c => HE2.out c hf)
    have HE3' := hid (HE3.out hf)
    rw [hf] at h25
    simp only [Bool.true_and] at h25
    clear h26 h27 h28 HE1 HE2 HE3 h23 hf
    go_wp2_with fail
    refine Calls.mono (h24.out _ (HBE.out w1 HB1.out)) ?_
    rintro e w2 ⟨be, rfl, hbe1, hS2, hb2⟩
    have HB2 : Hid (Below (B + 1) W w2) := HB1.out.trans (hb2.mono (by rw [← hsz]; exact HB1.out.size))
    have hbB : B + 1 ≤ be := by have := HB1.out.size; omega
    have HSS := hid hS2
    clear hb2 hbe1 hS2 HB1 h24
    go_upto_region 5 with (at_range; (with_reducible refine wpL_range 70 Try.underlying51 be S ?_ HSS.out ?_); (rfl); (intro w3 hi3 hb3 hs3))
    go_frame
    obtain ⟨R, hR⟩ : ∃ R, R = w2.heap.size := ⟨_, rfl⟩
    rw [← hR] at hi3 hb3 hs3 ⊢
    have hbR : be < R := by rw [hR]; exact HSS.out.lt
    have HI3 := hid hi3
    have HB3 : Hid (Below (B + 1) W w3) := HB2.out.trans (hb3.mono (by omega))
    have HL3 : Hid (∀ c, c ∈ gs → (S c).isSome = false → inn m c = true) := hid fun c hc h => by rw [HSI.out c hc] at h; cases h
    clear hi3 hb3 hs3 HB2 HSS hR
    go_loopw [] (fun wr => ∃ left, Hid (Below (B + 1) W wr) ∧ Hid (FIter wr be R S left) ∧ Hid (∀ c, c ∈ gs → left c = false → inn m c = true)) (fun wr => wr.rangeLeft be R)
    case atStart => exact ⟨_, HB3, HI3, HL3⟩
    case round =>
      clear HB3 HI3 HL3
      obtain ⟨left, HB5, HI5, HL5⟩ := hrel
      go_wp2_with (at_next; (with_reducible refine wpL_next be R S left ?_ HI5.out ?_ ?_); (rfl))
      · intro hl
        have HIA := hid (fun c hc => HL5.out c hc (hl c))
        have HS5 := hid HI5.out.map
        have hr := HE3'.out HIA.out
        subst hr
        clear HL5 HI5
        obtain ⟨a0, a1, a2, a3⟩ := HK.out _ HB5.out
        go_wp2_with fail
        refine Calls.mono (H26.out be _ (HBE.out _ HB5.out) HS5.out) ?_
        rintro e w6 ⟨b9, rfl, hb9, hF9, hb6⟩
        have HB6 : Hid (Below (B + 1) W w6) := HB5.out.trans (hb6.mono (by rw [← hsz]; exact HB5.out.size))
        have HF9 := hid hF9
        clear hb6 hF9 HB5 HS5 a0 a1 a2 a3 H26
        obtain ⟨a0, a1, a2, a3⟩ := HK.out _ HB6.out
        go_wp2_with fail
        refine Calls.mono (H27.out HIA.out b9 _ (HBE.out _ HB6.out) HF9.out) ?_
        rintro e w7 ⟨bF, f, rfl, hbF, hFF, hFi, hb7⟩
        have HB7 : Hid (Below (B + 1) W w7) := HB6.out.trans (hb7.mono (by rw [← hsz]; exact HB6.out.size))
        have HF97 := hid (HF9.out.below hb7 HF9.out.lt)
        have HFF := hid hFF
        have HFI := hid hFi
        have hbFB : B + 1 ≤ bF := by have := HB6.out.size; omega
        clear hb7 hFF hFi hbF hb9 HB6 HF9 a0 a1 a2 a3 H27
        go_upto_region 11 with fail
        have hsB : B < w7.heap.size := by have := HB7.out.size; omega
        have a0 : ∀ z : Nx w7, z.w.cell? ⟨B, 0, none⟩ = some (.int .i64 mW) := fun z => (HK.out z.w (HB7.out.trans (z.h.mono (by rw [← hsz]; exact HB7.out.size)))).1
        have a1 : ∀ z : Nx w7, z.w.cell? ⟨B, 1, none⟩ = some (.int .i64 mH) := fun z => (HK.out z.w (HB7.out.trans (z.h.mono (by rw [← hsz]; exact HB7.out.size)))).2.1
        have a2 : ∀ z : Nx w7, z.w.cell? ⟨B, 2, none⟩ = some S1 := fun z => (HK.out z.w (HB7.out.trans (z.h.mono (by rw [← hsz]; exact HB7.out.size)))).2.2.1
        have a3 : ∀ z : Nx w7, z.w.cell? ⟨B, 3, none⟩ = some S2 := fun z => (HK.out z.w (HB7.out.trans (z.h.mono (by rw [← hsz]; exact HB7.out.size)))).2.2.2
        refine wp_region_calm (S := fun w' => ∃ z : Nx w7, w' = z.w) [(0, false), (1, false), (2, false), (3, false), (4, false), (5, false), (6, false), (7, false), (8, true), (9, false), (10, true), (11, true), (12, true)] (by kernel_rfl) (by kernel_rfl) rfl (by kernel_rfl) ⟨⟨w7.drew, below_drew (Below.refl _ _)⟩, rfl⟩ ?_
        repeat (refine plan_take rfl (fun K hK => ?_); go_simp; refine ⟨_, fun _ => rfl, hK _ ?_⟩; clear hK K)
        refine plan_turn rfl (fun K hK => ?_)
        go_simp
        have hd7 : Below w7.heap.size w7 w7.drew := below_drew (Below.refl _ _)
        refine Calls.mono (H28.out f b9 bF _ (HBE.out _ (below_drew HB7.out)) (HF97.out.keep rfl) (HFF.out.keep rfl) HFI.out) ?_
        rintro _ w8 ⟨bn, rfl, hbn, hNN, hb8⟩
        have hn8 : Below w7.heap.size w7 w8 := ⟨hb8.os, hb8.tape, hb8.output, hb8.size, hb8.block⟩
        refine hK _ _ ⟨⟨w8, hn8⟩, rfl⟩ ?_
        clear hK K
        refine plan_take rfl (fun K hK => ?_)
        go_simp
        refine ⟨_, fun _ => rfl, hK _ ?_⟩
        clear hK K
        refine plan_turn rfl (fun K hK => ?_)
        go_simp
        obtain ⟨w9, hw9⟩ : ∃ w9, w9 = w8.alloc (.cells #[Value.int .i64 mW, .int .i64 mH, .map (some bF), .map (some bn)] 59) := ⟨_, rfl⟩
        rw [← hw9]
        have hb9 : Below w8.heap.size w8 w9 := by rw [hw9]; exact (Below.refl _ _).alloc (Nat.le_refl _) _
        have hbk9 : Blk w9 w8.heap.size [.int .i64 mW, .int .i64 mH, .map (some bF), .map (some bn)] 59 := by rw [hw9]; exact Blk.new _ _ _
        have hn9 : Below w7.heap.size w7 w9 := hn8.trans (hb9.mono hn8.size)
        clear hw9
        refine hK _ _ ⟨⟨w9, hn9⟩, rfl⟩ ?_
        clear hK K
        refine plan_turn rfl (fun K hK => ?_)
        go_simp
        refine hK _ _ ⟨⟨w9, hn9⟩, rfl⟩ ?_
        clear hK K
        refine plan_turn rfl (fun K hK => ?_)
        go_simp
        refine hK _ _ ⟨⟨w9, hn9⟩, rfl⟩ ?_
        clear hK K
        refine plan_done ⟨rfl, ?_⟩
        have HFE : Hid (FMap w9 bF (valF f)) := hid ((HFF.out.below hn8 HFF.out.lt).below hb9 (by have := HFF.out.lt; have := hn8.size; omega))
        have HNE : Hid (FMap w9 bn fun c => (nextV m bl gs f c).map cv) := hid (hNN.below hb9 hNN.lt)
        have HKE := hid hbk9
        have HB9 := hid (HBE.out _ (HB7.out.trans (hn9.mono (by rw [← hsz]; exact HB7.out.size))))
        have HSE : Hid (B ≤ w8.heap.size ∧ B ≤ bF ∧ B ≤ bn) := hid ⟨by have := hn8.size; omega, by omega, by have : w7.heap.size ≤ bn := hbn; omega⟩
        clear hb9 hbk9 hn9 hn8 hNN hbn hb8 a0 a1 a2 a3
        go_wp2
        go_ret2
        have HE := HB9.out
        have HSE' := HSE.out
        rw [HB.out 0] at HE HSE'
        exact ⟨_, rfl, HE, f, HFI.out, _, rfl, bF, bn, HSE', HKE.out, HFE.out, HNE.out⟩
      · intro x y z w6 hlx hsx hi6 hm6 ht6 hen
        have hgx := HSM.out _ _ hsx
        have hRw : R < w6.heap.size := hi6.lt.2.1
        obtain ⟨U, hU⟩ : ∃ U, U = w6.alloc (.cells #[Value.int .i64 x, .int .i64 y] 37) := ⟨_, rfl⟩
        obtain ⟨g, hg⟩ : ∃ g, g = w6.heap.size := ⟨_, rfl⟩
        have HUB : Hid (Below g w6 U) := by rw [hU, hg]; exact (Below.refl _ _).alloc (Nat.le_refl _) _
        have HUG : Hid (Blk U g [.int .i64 x, .int .i64 y] 37) := by rw [hU, hg]; exact Blk.new _ _ _
        have HBU : Hid (Below (B + 1) W U) := HB5.out.trans ((ht6.below (by omega)).trans (HUB.out.mono (by omega)))
        have HIU : Hid (FIter U be R S fun q => left q && !(q == (x, y))) := hi6.below HUB.out (by omega) (by omega)
        have HMU : Hid (U.rangeLeft be R < wr.rangeLeft be R) := by
          rw [rangeLeft_keep (HUB.out.block be (by omega)) (HUB.out.block R (by omega))]; exact hid hm6
        have hgU : g < U.heap.size := HUG.out.lt
        have hRg : R < g := by omega
        clear ht6 hi6 hm6 HB5 HI5
        go_upto_region 7 with fail
        rw [← hU, ← hg]
        have g0 : U.cell? ⟨g, 0, none⟩ = some (.int .i64 x) := HUG.out.cell 0
        have g1 : U.cell? ⟨g, 1, none⟩ = some (.int .i64 y) := HUG.out.cell 1
        obtain ⟨a0, a1, a2, a3⟩ := HK.out _ HBU.out
        have HBWU := hid (HBE.out _ HBU.out)
        clear hU hg HUB hen
        go_wp2_with fail
        refine Calls.mono (h25.out x y _ HBWU.out) ?_
        rintro e w7 ⟨rfl, hb7⟩
        have HB7 : Hid (Below (B + 1) W w7) := HBU.out.trans (hb7.mono (by rw [← hsz]; exact HBU.out.size))
        have HI7 := hid (HIU.out.below hb7 (by omega) (by omega))
        have HM7 := hid (rangeLeft_keep (hb7.block be (by omega)) (hb7.block R (by omega)))
        clear hb7 HBU HIU HUG a0 a1 a2 a3 g0 g1 HBWU hgU
        rcases hi : inn m (x, y) with _ | _
        · have hr := HE2'.out (x, y) hgx hi
          subst hr
          go_wp2
          go_ret2
          have HE := HBE.out _ HB7.out
          rw [HB.out 0] at HE
          exact ⟨_, rfl, HE, fun _ => rfl, fun h => by cases h⟩
        · have HL7 : Hid (∀ c, c ∈ gs → (left c && !(c == (x, y))) = false → inn m c = true) := hid fun c hc h => by
            by_cases he : c = (x, y)
            · rw [he]; exact hi
            · have he2 : (c == (x, y)) = false := by simpa using he
              rw [he2] at h
              exact HL5.out c hc (by simpa using h)
          clear hi
          go_wp2
          go_roundw
          case rel => exact ⟨_, HB7, HI7, HL7⟩
          case measure => rw [HM7.out]; exact HMU.out
end Go.Proofs.Ytgkjlfpkhpnpfaa
