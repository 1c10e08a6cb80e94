/- The reference: Make. -/
import Derived.Test.YtgkjlfpkhpnpfaaMade
import Derived.Test.YtgkjlfpkhpnpfaaRefMay
import Derived.Test.YtgkjlfpkhpnpfaaRefNo
import Derived.Test.YtgkjlfpkhpnpfaaFork
namespace Go.Proofs.Ytgkjlfpkhpnpfaa
open Go.RowKit
/-- The numbers behind the first k goals. -/
def begD (m : Mp) (gs : List Cl) (T k : Nat) : List Int := (gs.take k).foldl (fun d c => d.set (idx m c) 0) (List.replicate T 1000000)
theorem begD_next {m : Mp} {gs : List Cl} {T k : Nat} (hk : k < gs.length) : begD m gs T (k + 1) = (begD m gs T k).set (idx m (gs.getD k (0, 0))) 0 := by
  unfold begD
  have e : gs.take (k + 1) = gs.take k ++ [gs.getD k (0, 0)] := by
    rw [List.take_add_one, List.getD_eq_getElem?_getD, List.getElem?_eq_getElem hk]; rfl
  rw [e, List.foldl_append]; rfl
theorem begD_len (m : Mp) (gs : List Cl) (T : Nat) : ∀ k, (begD m gs T k).length = T := by
  intro k
  unfold begD
  have : ∀ (l : List Cl) (d : List Int), (l.foldl (fun d c => d.set (idx m c) 0) d).length = d.length := by
    intro l
    induction l with
    | nil => intro d; rfl
    | cons c r ih => intro d; rw [List.foldl_cons, ih, List.length_set]
  rw [this, List.length_replicate]
theorem begD_good {m : Mp} {bl gs : List Cl} {T : Nat} (hf : formed m = true) (hT : m.W * m.H = (T : Int)) (hi : ∀ c ∈ gs, inn m c = true) : Good m bl gs T (begD m gs T gs.length) ∧ Zero m gs (begD m gs T gs.length) := by
  have key : ∀ (l : List Cl) (d : List Int), (∀ c ∈ l, c ∈ gs) → Good m bl gs T d → Good m bl gs T (l.foldl (fun d c => d.set (idx m c) 0) d) ∧ (∀ j, d.getD j 0 = 0 → (l.foldl (fun d c => d.set (idx m c) 0) d).getD j 0 = 0) ∧ ∀ c ∈ l, (l.foldl (fun d c => d.set (idx m c) 0) d).getD (idx m c) 0 = 0 := by
    intro l
    induction l with
    | nil => exact fun d _ h => ⟨h, fun _ h => h, fun c hc => by cases hc⟩
    | cons c r ih =>
      intro d hl h
      have hcg := hl c (by simp)
      have hd := good_goal hf hT h hcg (hi c hcg)
      obtain ⟨k1, k2, k3⟩ := ih (d.set (idx m c) 0) (fun x hx => hl x (by simp [hx])) hd
      have hg := fun j => getD_set d (idx m c) j 0 (by rw [h.len]; exact (idx_lt hf hT (hi c hcg)).1)
      refine ⟨k1, fun j hj => k2 j (by rw [hg j]; split; rfl; exact hj), fun x hx => ?_⟩
      rcases List.mem_cons.1 hx with rfl | hx
      · exact k2 _ (by rw [hg, if_pos rfl])
      · exact k3 x hx
  obtain ⟨k1, -, k3⟩ := key gs (List.replicate T 1000000) (fun _ h => h) (good_begin m bl gs T)
  have e : begD m gs T gs.length = gs.foldl (fun d c => d.set (idx m c) 0) (List.replicate T 1000000) := by unfold begD; rw [List.take_length]
  rw [e]
  exact ⟨k1, k3⟩
theorem set_mid {α : Type} (a : List α) (x y : α) (r : List α) {i : Nat} (h : a.length = i) : (a ++ x :: r).set i y = a ++ [y] ++ r := by
  subst h
  rw [List.set_append_right _ _ (Nat.le_refl _), Nat.sub_self]
  simp
def OutRef (w : World) (m : Mp) (gs : List Cl) (T : Nat) (f : Cl → Option Nat) (e : Ending) (w' : World) : Prop := ∃ s, e = .returned (.tuple #[s, .int .i64 (makeE m gs)]) ∧ Below w.heap.size w w' ∧ (makeE m gs ≠ 0 → s = .slice none 0 0) ∧ (makeE m gs = 0 → ∃ g, s = .slice (some ⟨g, 0, none⟩) T T ∧ IB w' g (rowV m f T))
set_option maxRecDepth 4000 in
set_option maxHeartbeats 16000000 in
theorem refMake_any (m : Mp) (v : Value) (bl gs : List Cl) (p1 p2 : Option Addr) (N1 c1 N2 c2 T : Nat) (f : Cl → Option Nat) (w : World) (hm : MapAt w v m) (hbl : CellsAt w (.slice p1 N1 c1) bl) (hgs : CellsAt w (.slice p2 N2 c2) gs) (h1 : N1 ≤ 1000) (h2 : N2 ≤ 1000)
    (hT : formed m = true → m.W * m.H = (T : Int)) (hF : makeE m gs = 0 → Field m bl gs f) :
    Calls Try.prog 11 #[v, .slice p1 N1 c1, .slice p2 N2 c2] w fun e w' => OutRef w m gs T f e w' := by
  have hN2 : N2 = gs.length := by obtain ⟨q, c, e, _⟩ := hgs; simp only [Value.slice.injEq] at e; exact e.2.1
  have h20 : Hid (∀ W, Below w.heap.size w W → Calls Try.prog 20 #[v] W fun e w' => Out W (.bool (formed m)) e w') := fun W h => refFormed_any m v W (hm.below h)
  have h21 : Hid (∀ x y W, Below w.heap.size w W → Calls Try.prog 21 #[v, C x y] W fun e w' => Out W (.bool (formed m && inn m (x, y))) e w') := fun x y W h => refInside_any m v x y W (hm.below h)
  have h29 : Hid (formed m = true → ∀ x y W, Below w.heap.size w W → Calls Try.prog 29 #[v, .slice p1 N1 c1, .slice p2 N2 c2, C x y] W fun e w' => Out W (.bool (opn m bl gs (x, y))) e w') := fun hf x y W h => refMay_any m v bl gs p1 p2 N1 c1 N2 c2 x y W (hm.below h) (hbl.below h) (hgs.below h) hf h1 h2
  have h30 : Hid (formed m = true → ∀ i W, i < T → Below w.heap.size w W → Calls Try.prog 30 #[v, C (cellOf m i).1 (cellOf m i).2] W fun e w' => OutOwn W (nr m (cellOf m i)) e w') := fun hf i W hi h => by
    obtain ⟨f1, f2, -⟩ := formed_of hf
    have hp := holds_of (cell_in hf (hT hf) hi)
    exact refNear_own m v _ _ W (by omega) (by omega) (hm.below h)
  have HCG : Hid (∀ W, Below w.heap.size w W → CellsAt W (.slice p2 N2 c2) gs) := hid fun W h => hgs.below h
  have HE1 : Hid (formed m = false → makeE m gs = 4) := makeE_form
  have HE2 : Hid (∀ c, formed m = true → c ∈ gs → inn m c = false → makeE m gs = 2) := fun c h hc hi => makeE_range h hc hi
  have HE3 : Hid (formed m = true → (∀ c ∈ gs, inn m c = true) → makeE m gs = 0) := makeE_ok
  have HTT : Hid (formed m = true → m.W * m.H = (T : Int) ∧ (4 ≤ m.W ∧ m.W ≤ 20) ∧ (4 ≤ m.H ∧ m.H ≤ 20) ∧ T ≤ 400 ∧ 16 ≤ T) := fun hf => by
    obtain ⟨f1, f2, -⟩ := formed_of hf
    have hp := prod_bound f1 f2
    have := hT hf
    exact ⟨this, f1, f2, by omega, by omega⟩
  have HIX : Hid (formed m = true → ∀ c, inn m c = true → idx m c < T ∧ c.2 * m.W + c.1 = (idx m c : Int) ∧ 0 ≤ c.2 * m.W ∧ c.2 * m.W ≤ 400) := fun hf c hc => by
    obtain ⟨f1, f2, -⟩ := formed_of hf
    have hq := place_lt f1 f2 (holds_of hc)
    have := idx_lt hf (hT hf) hc
    exact ⟨this.1, this.2, hq.1, hq.2.1⟩
  have HBN : Hid (∀ k, k < N2 → begD m gs T (k + 1) = (begD m gs T k).set (idx m (gs.getD k (0, 0))) 0) := fun k hk => begD_next (by rw [← hN2]; exact hk)
  have HBL := hid (begD_len m gs T)
  have HBG : Hid (formed m = true → (∀ c ∈ gs, inn m c = true) → Good m bl gs T (begD m gs T N2) ∧ Zero m gs (begD m gs T N2)) := fun hf hi => by rw [hN2]; exact begD_good hf (hT hf) hi
  have HB0D : Hid (begD m gs T 0 = List.replicate T 1000000) := hid rfl
  have HGM : Hid (∀ k, k < N2 → gs.getD k (0, 0) ∈ gs) := fun k hk => by
    rw [List.getD_eq_getElem?_getD, List.getElem?_eq_getElem (by rw [← hN2]; exact hk)]
    exact List.getElem_mem _
  have HGA : Hid (∀ c ∈ gs, ∃ k, k < N2 ∧ gs.getD k (0, 0) = c) := fun c hc => by
    obtain ⟨k, hk, he⟩ := List.getElem_of_mem hc
    exact ⟨k, by rw [hN2]; exact hk, by rw [List.getD_eq_getElem?_getD, List.getElem?_eq_getElem hk]; exact he⟩
  have HST : Hid (formed m = true → ∀ d, Good m bl gs T d → Zero m gs d → ∀ i, i < T → ∀ x, x ∈ nr m (cellOf m i) → opn m bl gs x = true → d.getD (idx m x) 0 + 1 < d.getD i 0 → Good m bl gs T (d.set i (d.getD (idx m x) 0 + 1)) ∧ Zero m gs (d.set i (d.getD (idx m x) 0 + 1)) ∧ sumN (d.set i (d.getD (idx m x) 0 + 1)) < sumN d) := fun hf d h hz i hi x hx ho hlt => good_step hf (hT hf) h hz hi hx ho hlt
  have HDN : Hid (formed m = true → makeE m gs = 0 → ∀ d, Good m bl gs T d → Zero m gs d → (∀ i, i < T → ∀ x ∈ nr m (cellOf m i), opn m bl gs x = true → d.getD i 0 ≤ d.getD (idx m x) 0 + 1) → endD d T = rowV m f T) := fun hf he d h hz hs => endD_done (hF he) h.len (good_done hf (hT hf) h hz (hF he) hs)
  have HNI : Hid (formed m = true → ∀ c x, x ∈ nr m c → inn m x = true) := fun hf c x h => nr_in hf h
  have HNL : Hid (formed m = true → ∀ c, (nr m c).length ≤ 4) := fun hf c => by
    unfold nr near
    rw [if_pos hf]
    exact Nat.le_trans (List.length_filter_le _ _) (by simp [nbs])
  have HCI0 : Hid (formed m = true → ∀ c, inn m c = true → cellOf m (idx m c) = c) := fun hf c hc => cell_idx hf hc
  have HCO : Hid (∀ i : Nat, cellOf m i = ((i : Int) % m.W, (i : Int) / m.W)) := hid fun i => rfl
  unfold OutRef
  obtain ⟨E, hE⟩ : ∃ E, E = makeE m gs := ⟨_, rfl⟩
  rw [← hE] at HE1 HE2 HE3 HDN ⊢
  clear hE hT hF hgs hbl h1 hN2
  obtain ⟨q1, d1, q2, d2, rfl, -, -⟩ := hm
  obtain ⟨S1, hS1⟩ : ∃ z, z = Value.slice q1 m.ts.length d1 := ⟨_, rfl⟩
  obtain ⟨S2, hS2⟩ : ∃ z, z = Value.slice q2 m.os.length d2 := ⟨_, rfl⟩
  obtain ⟨S3, hS3⟩ : ∃ z, z = Value.slice p1 N1 c1 := ⟨_, rfl⟩
  obtain ⟨mW, hmW⟩ : ∃ z, z = m.W := ⟨_, rfl⟩
  obtain ⟨mH, hmH⟩ : ∃ z, z = m.H := ⟨_, rfl⟩
  rw [← hS1, ← hS2, ← hmW, ← hmH] at h20 h21 h29 h30
  rw [← hmW, ← hmH] at HTT
  rw [← hmW] at HIX HCO
  rw [← hmW, ← hmH, ← hS1, ← hS2, ← hS3]
  rw [← hS3] at h29
  clear hS1 hS2 hS3 hmW hmH
  unfold C Out at *
  go_enter Try.func11, Try.ntmps11
  go_upto_region 1 with fail
  obtain ⟨W, hW⟩ : ∃ W, W = w.alloc (.cells #[Value.int .i64 mW, .int .i64 mH, S1, S2] 24) := ⟨_, rfl⟩
  obtain ⟨B, hB⟩ : ∃ B, B = w.heap.size := ⟨_, rfl⟩
  rw [← hW, ← hB]
  have hsz : W.heap.size = B + 1 := by rw [hW, hB]; simp
  have hbe : ∀ w', Below (B + 1) W w' → Below B w w' := by
    intro w' h
    have h1 : Below w.heap.size w W := by rw [hW]; exact (Below.refl _ _).alloc (Nat.le_refl _) _
    rw [← hB] at h1
    exact h1.trans (h.mono (by omega))
  have hbk : Blk W B [Value.int .i64 mW, .int .i64 mH, S1, S2] 24 := by rw [hW, hB]; exact Blk.new _ _ _
  have hk : ∀ w', Below (B + 1) W w' → w'.cell? ⟨B, 0, none⟩ = some (.int .i64 mW) ∧ w'.cell? ⟨B, 1, none⟩ = some (.int .i64 mH) ∧ w'.cell? ⟨B, 2, none⟩ = some S1 ∧ w'.cell? ⟨B, 3, none⟩ = some S2 := fun w' h => by
    have := hbk.below h (by omega)
    exact ⟨this.cell 0, this.cell 1, this.cell 2, this.cell 3⟩
  rw [← hB] at h20 h21 h29 h30 HCG
  obtain ⟨a0, a1, a2, a3⟩ := hk W (Below.refl _ _)
  have HK := hid hk
  have HBE := hid hbe
  have HB := hid (fun (_ : Nat) => hB)
  have HB0 := hid (Below.refl (B + 1) W)
  clear hW hB hk hbe hbk
  go_wp2_with fail
  refine Calls.mono (h20.out _ (HBE.out W HB0.out)) ?_
  rintro e w1 ⟨rfl, hb1⟩
  have HB1 : Hid (Below (B + 1) W w1) := by rw [← hsz]; exact hid hb1
  clear hb1 a0 a1 a2 a3 HB0
  rcases hf : formed m with _ | _
  · have hr := HE1.out hf
    subst hr
    have HE := HBE.out _ HB1.out
    rw [HB.out 0] at HE
    go_wp2
    go_ret2
    first
      | exact ⟨_, rfl, HE, fun _ => rfl, fun h => by cases h⟩
      | exact ⟨_, rfl, HE, rfl⟩
  · obtain ⟨t1, f1, f2, t2, t3⟩ := HTT.out hf
    have H29 := hid (h29.out hf)
    have H30 := hid (h30.out hf)
    have HE2' := hid (fun c => HE2.out c hf)
    have HE3' := hid (HE3.out hf)
    have HIX' := hid (HIX.out hf)
    have HBG' := hid (HBG.out hf)
    have HST' := hid (HST.out hf)
    have HDN' := hid (HDN.out hf)
    have HNI' := hid (HNI.out hf)
    have HNL' := hid (HNL.out hf)
    have HCI := hid (HCI0.out hf)
    rw [hf] at h21
    simp only [Bool.true_and] at h21
    clear h20 h29 h30 HE1 HE2 HE3 HTT HIX HBG HST HDN HNI HNL HCI0 hf
    obtain ⟨a0, a1, a2, a3⟩ := HK.out _ HB1.out
    have hmul : wrap64 (mW * mH) = (T : Int) := by rw [t1]; exact wrap_small (by omega)
    have HT4 := hid (And.intro t2 t3)
    have HT1 : Hid (T ≤ 1000) := hid (by omega)
    have hDB : B + 1 ≤ w1.heap.size := by rw [← hsz]; exact HB1.out.size
    go_upto_region 5 with (first
      | ((with_reducible refine wpL_makeI T HT1.out ?_ ?_ ?_); (first | rfl | (simp only [hmul])); (first | rfl | (simp only [hmul])); (intro w2 cur2 hc2 hl2 hb2); (have HC2 := hid hc2); (have HL2 := hid hl2); (have HB2 := hid hb2); clear hc2 hl2 hb2))
    obtain ⟨D, hD⟩ : ∃ D, D = w1.heap.size := ⟨_, rfl⟩
    rw [← hD] at HC2 HB2 hDB ⊢
    have HDE := hid (fun (_ : Nat) => hD)
    have HBT : Hid (∀ w', Below D w1 w' → Below (B + 1) W w') := hid fun w' h => HB1.out.trans (h.mono hDB)
    have HL0 : Hid (Blk w2 D (List.replicate 0 (I 1000000) ++ cur2) 3) := HC2
    clear hD HC2 a0 a1 a2 a3 hmul
    go_loopw [9] (fun iv wr => ∃ (i : Nat) (l : List Value), i + l.length = T ∧ iv = .int .i64 (i : Int) ∧ Hid (Below D w1 wr) ∧ Hid (Blk wr D (List.replicate i (I 1000000) ++ l) 3)) (fun iv _ => T - (intOf iv).toNat)
    case atStart => exact ⟨0, cur2, by rw [HL2.out]; omega, rfl, HB2, HL0⟩
    case round =>
      clear HB2 HL0
      obtain ⟨i, l, hil, rfl, HR1, HA1⟩ := hrel
      cases l with
      | cons x l =>
        simp only [List.length_cons] at hil
        have hl' : (i : Int) < (T : Int) := by omega
        have hi0 : (0 : Int) ≤ (i : Int) := by omega
        have HIL := hid hil
        have c0 : wr.cell? ⟨D, i, none⟩ = some x := by rw [HA1.out.cell i, List.getElem?_append_right (by simp)]; simp
        have z0 := HA1.out.frozen i
        obtain ⟨V, hV⟩ : ∃ V, V = wr.setCell ⟨D, i, none⟩ (.int .i64 1000000) := ⟨_, rfl⟩
        have hT := turn_one wr D i (.int .i64 1000000)
        have HA2 : Hid (Blk V D (List.replicate (i + 1) (I 1000000) ++ l) 3) := by
          rw [hV]
          have := HA1.out.set i (.int .i64 1000000)
          rw [set_mid _ _ _ _ (by simp)] at this
          rw [List.replicate_succ']
          exact hid this
        rw [← hV] at hT
        have HR2 : Hid (Below D w1 V) := hid (HR1.out.trans (hT.below (Nat.le_refl _)))
        have HV := hid (fun (_ : Nat) => hV)
        have hi9 : (i : Int) + 1 ≤ 9223372036854775807 := by omega
        clear hV hT hil
        go_wp2
        rw [← HV.out 0]
        go_roundw
        case rel => exact ⟨i + 1, l, by have := HIL.out; omega, by simp, HR2, HA2⟩
        case measure =>
          have := HIL.out
          simp [intOf]; omega
      | nil =>
        simp only [List.length_nil, Nat.add_zero] at hil
        subst hil
        have hl' : ((i : Int) < (i : Int)) = False := by simp
        have HD0 : Hid (IB wr D (begD m gs i 0)) := by
          rw [HB0D.out]
          unfold IB
          rw [List.map_replicate]
          have := HA1.out
          rw [List.append_nil] at this
          exact hid this
        have HI0 : Hid (∀ j, j < 0 → inn m (gs.getD j (0, 0)) = true) := hid fun j hj => by omega
        have HR2 := HR1
        clear HA1
        go_upto_region 9 with fail
        clear hl'
        go_loopw [10] (fun iv wr => ∃ k : Nat, k ≤ N2 ∧ iv = .int .i64 (k : Int) ∧ Hid (Below D w1 wr) ∧ Hid (IB wr D (begD m gs i k)) ∧ Hid (∀ j, j < k → inn m (gs.getD j (0, 0)) = true)) (fun iv _ => N2 - (intOf iv).toNat)
        case atStart => exact ⟨0, by omega, rfl, HR2, HD0, HI0⟩
        case round =>
          clear HR1 HR2 HD0 HI0
          obtain ⟨k, hk, rfl, HR3, HD3, HI3⟩ := hrel
          by_cases hl : k < N2
          · have hl' : (k : Int) < (N2 : Int) := by omega
            have hk0 : (0 : Int) ≤ (k : Int) := by omega
            have HKN := hid hl
            obtain ⟨sb, so, rfl, -, -⟩ := (HCG.out wr (HBE.out _ (HBT.out _ HR3.out))).at (i := k) (by
              obtain ⟨q, c, e, _⟩ := HCG.out wr (HBE.out _ (HBT.out _ HR3.out))
              simp only [Value.slice.injEq] at e
              omega)
            have HCL : Hid (N2 = gs.length) := by
              obtain ⟨q, c, e, _⟩ := HCG.out wr (HBE.out _ (HBT.out _ HR3.out))
              simp only [Value.slice.injEq] at e
              exact hid e.2.1
            have hcell := fun W' h => (HCG.out W' h).at (i := k) (by rw [← HCL.out]; exact HKN.out)
            have HBK := hid (HBN.out k hl)
            have HGK := hid (HGM.out k hl)
            obtain ⟨⟨x, y⟩, hxy⟩ : ∃ c, c = gs.getD k (0, 0) := ⟨_, rfl⟩
            rw [← hxy] at HBK HGK hcell
            have HXY := hid (fun (_ : Nat) => hxy)
            simp only at hcell
            have HC := hid (fun W' h => by
              obtain ⟨sb', so', e, h1, h2⟩ := hcell W' h
              cases e
              exact And.intro h1 h2)
            clear hcell hxy hk
            go_upto_region 11 with fail
            have HWD : Hid (D ≤ wr.heap.size) := hid (by have := HR3.out.size; have := HDE.out 0; omega)
            have HNT : Hid (∀ z : Nx wr, Below D w1 z.w) := hid fun z => HR3.out.trans (z.h.mono HWD.out)
            have m0 : ∀ z : Nx wr, z.w.cell? ⟨B, 0, none⟩ = some (.int .i64 mW) := fun z => (HK.out z.w (HBT.out _ (HNT.out z))).1
            have m1 : ∀ z : Nx wr, z.w.cell? ⟨B, 1, none⟩ = some (.int .i64 mH) := fun z => (HK.out z.w (HBT.out _ (HNT.out z))).2.1
            have m2 : ∀ z : Nx wr, z.w.cell? ⟨B, 2, none⟩ = some S1 := fun z => (HK.out z.w (HBT.out _ (HNT.out z))).2.2.1
            have m3 : ∀ z : Nx wr, z.w.cell? ⟨B, 3, none⟩ = some S2 := fun z => (HK.out z.w (HBT.out _ (HNT.out z))).2.2.2
            have l0 : ∀ z : Nx wr, z.w.cell? ⟨sb, so + k * 2, none⟩ = some (.int .i64 x) := fun z => (HC.out z.w (HBE.out _ (HBT.out _ (HNT.out z)))).1
            have l1 : ∀ z : Nx wr, z.w.cell? ⟨sb, so + k * 2 + 1, none⟩ = some (.int .i64 y) := fun z => (HC.out z.w (HBE.out _ (HBT.out _ (HNT.out z)))).2
            refine wp_region_calm (S := fun w' => ∃ z : Nx wr, w' = z.w) [(0, false), (1, false), (2, false), (3, false), (4, false), (5, true), (6, false)] (by kernel_rfl) (by kernel_rfl) rfl (by kernel_rfl) ⟨⟨wr.drew, below_drew (Below.refl _ _)⟩, rfl⟩ ?_
            repeat (refine plan_take rfl (fun K hK => ?_); go_simp; refine ⟨_, fun _ => rfl, hK _ ?_⟩; clear hK K)
            refine plan_turn rfl (fun K hK => ?_)
            go_simp
            refine Calls.mono (h21.out x y _ (HBE.out _ (HBT.out _ (HNT.out ⟨_, below_drew (Below.refl _ _)⟩)))) ?_
            rintro e w6 ⟨rfl, hb6⟩
            have hn6 : Below wr.heap.size wr w6 := ⟨hb6.os, hb6.tape, hb6.output, hb6.size, hb6.block⟩
            refine hK _ _ ⟨⟨w6, hn6⟩, rfl⟩ ?_
            clear hK K
            repeat (refine plan_take rfl (fun K hK => ?_); go_simp; refine ⟨_, fun _ => rfl, hK _ ?_⟩; clear hK K)
            refine plan_done ⟨rfl, ?_⟩
            have HR6 : Hid (Below D w1 w6) := hid (HNT.out ⟨w6, hn6⟩)
            have HD6 : Hid (IB w6 D (begD m gs i k)) := hid (Blk.below HD3.out hn6 (Blk.lt HD3.out))
            clear hb6 hn6 m0 m1 m2 m3 l0 l1 HNT HWD HR3 HD3
            cases hin : inn m (x, y) with
            | false =>
              have hr := HE2'.out (x, y) HGK.out hin
              subst hr
              have HE := HBE.out _ (HBT.out _ HR6.out)
              rw [HB.out 0] at HE
              go_wp2
              go_ret2
              first
                | exact ⟨_, rfl, HE, fun _ => rfl, fun h => by cases h⟩
                | exact ⟨_, rfl, HE, rfl⟩
                | exact ⟨_, rfl, HE⟩
                | exact ⟨rfl, HE⟩
                | exact HE
            | true =>
              obtain ⟨j1, j2, j3, j4⟩ := HIX'.out (x, y) hin
              simp only at j2 j3 j4
              have HJ := HBK
              have hjl : idx m (x, y) < (begD m gs i k).length := by rw [HBL.out]; exact j1
              generalize idx m (x, y) = j at *
              have hwm : IntKind.i64.wrap (y * mW) = y * mW := by rw [IntKind.wrap_i64]; omega
              have hwa : IntKind.i64.wrap (y * mW + x) = (j : Int) := by rw [j2, IntKind.wrap_i64]; have := HT4.out; omega
              have hwm' : wrap64 (y * mW) = y * mW := by unfold wrap64; omega
              have hwa' : wrap64 (y * mW + x) = (j : Int) := by rw [j2]; unfold wrap64; have := HT4.out; omega
              obtain ⟨m0, m1, -, -⟩ := HK.out w6 (HBT.out _ HR6.out)
              obtain ⟨l0, l1⟩ := HC.out w6 (HBE.out _ (HBT.out _ HR6.out))
              have c0 := HD6.out.cell hjl
              have z0 := Blk.frozen HD6.out j
              have hj0 : (0 : Int) ≤ (j : Int) := by omega
              have hji : (j : Int) < (i : Int) := by omega
              have HI6 : Hid (∀ j, j < k + 1 → inn m (gs.getD j (0, 0)) = true) := hid fun j hj => by
                rcases Nat.lt_or_ge j k with h | h
                · exact HI3.out j h
                · obtain rfl : j = k := by omega
                  rw [← HXY.out 0]; exact hin
              have hT := turn_one w6 D j (.int .i64 0)
              obtain ⟨V, hV⟩ : ∃ V, V = (w6.setCell ⟨D, j, none⟩ (.int .i64 0)).drew := ⟨_, rfl⟩
              have HDV : Hid (IB V D (begD m gs i (k + 1))) := by
                rw [hV, HJ.out]
                exact hid (HD6.out.set j 0)
              have HRV : Hid (Below D w1 V) := by rw [hV]; exact hid (below_drew (HR6.out.trans (hT.below (Nat.le_refl _))))
              have HV := hid (fun (_ : Nat) => hV)
              clear hT hV hin j2 j3 j4 hjl
              go_upto_region 13 with fail
              go_still_tail 16, (by kernel_rfl)
              go_wp2
              rw [← HV.out 0]
              go_roundw
              case rel => exact ⟨k + 1, HKN.out, by simp, HRV, HDV, HI6⟩
              case measure =>
                have := HKN.out
                simp [intOf]; omega
          · obtain rfl : k = N2 := by omega
            have hl' : ((k : Int) < (k : Int)) = False := by simp
            have HIA : Hid (∀ c ∈ gs, inn m c = true) := hid fun c hc => by
              obtain ⟨j, hj, rfl⟩ := HGA.out c hc
              exact HI3.out j hj
            obtain ⟨hgd, hzr⟩ := HBG'.out HIA.out
            have hr := HE3'.out HIA.out
            subst hr
            have HDN2 := hid (HDN'.out rfl)
            have HGD := hid hgd
            have HZR := hid hzr
            have HWD : Hid (D < wr.heap.size) := hid (Blk.lt HD3.out)
            have HT9 := HT1
            clear hgd hzr hl hk HI3 HBN HGM HGA HBG' HE2' HE3' HDN' HCG HB0D
            go_upto_region 16 with (first
              | ((with_reducible refine wpL_makeB i HT9.out ?_ ?_ ?_); (rfl); (rfl); (intro w4 cur4 hc4 hl4 hb4); (have HC4 := hid hc4); (have HL4 := hid hl4); (have HB4 := hid hb4); clear hc4 hl4 hb4))
            obtain ⟨O, hO⟩ : ∃ O, O = wr.heap.size := ⟨_, rfl⟩
            rw [← hO] at HC4 HB4 HWD ⊢
            have HRO : Hid (Below D w1 w4) := hid (HR3.out.trans (HB4.out.mono (by have := HWD.out; omega)))
            have HDO : Hid (IB w4 D (begD m gs i k)) := hid (Blk.below HD3.out HB4.out HWD.out)
            have HO0 : Hid (Blk w4 O ((List.range 0).map (fun j => .bool (opn m bl gs (cellOf m j))) ++ cur4) 4) := hid HC4.out
            obtain ⟨d0, hd0⟩ : ∃ d0, d0 = begD m gs i k := ⟨_, rfl⟩
            rw [← hd0] at HGD HZR HDO
            have HWD0 := HWD
            have HDLO : Hid (D < O) := hid HWD.out
            clear hO HC4 HB4 HR3 HD3 hd0 hl' HBL HWD
            go_loopw [12] (fun iv wr => ∃ (a : Nat) (l : List Value), a + l.length = i ∧ iv = .int .i64 (a : Int) ∧ Hid (Below D w1 wr) ∧ Hid (IB wr D d0) ∧ Hid (Blk wr O ((List.range a).map (fun j => .bool (opn m bl gs (cellOf m j))) ++ l) 4)) (fun iv _ => i - (intOf iv).toNat)
            case atStart => exact ⟨0, cur4, by rw [HL4.out]; omega, rfl, HRO, HDO, HO0⟩
            case round =>
              clear HRO HDO HO0 HL4
              obtain ⟨a, l, hal, rfl, HR5, HD5, HO5⟩ := hrel
              cases l with
              | cons z l =>
                simp only [List.length_cons] at hal
                have hl' : (a : Int) < (i : Int) := by omega
                have ha0 : (0 : Int) ≤ (a : Int) := by omega
                have HAL := hid hal
                have hmay := fun W' h => H29.out (cellOf m a).1 (cellOf m a).2 W' h
                rw [HCO.out a] at hmay
                simp only at hmay
                have hz : (mW = 0) = False := by simp; omega
                have ht1 : (a : Int).tmod mW = (a : Int) % mW := Int.tmod_eq_emod_of_nonneg ha0
                have ht2 : (a : Int).tdiv mW = (a : Int) / mW := Int.tdiv_eq_ediv_of_nonneg ha0
                have hq1 : 0 ≤ (a : Int) / mW := Int.ediv_nonneg ha0 (by omega)
                have hq2 : (a : Int) / mW ≤ 9223372036854775807 := by have := Int.ediv_le_self mW ha0; omega
                obtain ⟨x, hx⟩ : ∃ x, x = (a : Int) % mW := ⟨_, rfl⟩
                obtain ⟨y, hy⟩ : ∃ y, y = (a : Int) / mW := ⟨_, rfl⟩
                have HOP : Hid (opn m bl gs (cellOf m a) = opn m bl gs (x, y)) := by rw [HCO.out a, hx, hy]; exact hid rfl
                rw [← hx, ← hy] at hmay
                rw [← hx] at ht1
                rw [← hy] at ht2 hq1 hq2
                have HMY := hid hmay
                clear hx hy hmay
                have hwy : IntKind.i64.wrap y = y := by rw [IntKind.wrap_i64]; omega
                obtain ⟨ov, hov⟩ : ∃ ov, ov = opn m bl gs (x, y) := ⟨_, rfl⟩
                rw [← hov] at HMY HOP
                clear hov hq1 hq2
                go_upto_region 18 with fail
                have HWD : Hid (D ≤ wr.heap.size) := hid (by have := HR5.out.size; have := HDE.out 0; omega)
                obtain ⟨m0, m1, m2, m3⟩ := HK.out _ (HBT.out _ HR5.out)
                have HOL : Hid (O < wr.heap.size) := hid (Blk.lt HO5.out)
                have HOE := hid (fun w' (h : Below wr.heap.size wr w') => Blk.below HO5.out h (Blk.lt HO5.out))
                have HLN : Hid (((List.range a).map (fun j => Value.bool (opn m bl gs (cellOf m j))) ++ z :: l)[a]? = some z) := by
                  rw [List.getElem?_append_right (by simp)]; exact hid (by simp)
                have HCALL := hid (HMY.out _ (HBE.out _ (HBT.out _ (below_drew HR5.out))))
                clear HMY
                go_region_with (first
                  | (go_at_call 29; refine Calls.mono HCALL.out ?_; rintro e w6 ⟨rfl, hb6⟩; have hn6 : Below wr.heap.size wr w6 := ⟨hb6.os, hb6.tape, hb6.output, hb6.size, hb6.block⟩; have hO6 := HOE.out w6 hn6; have c0 : w6.cell? ⟨O, a, none⟩ = some z := (by rw [hO6.cell a]; exact HLN.out); have z0 := hO6.frozen a; have hO6 := hid hO6; have hn6 := hid hn6; clear hb6))
                all_goals
                  have hT := turn_one w6 O a (.bool ov)
                  obtain ⟨V, hV⟩ : ∃ V, V = w6.setCell ⟨O, a, none⟩ (.bool ov) := ⟨_, rfl⟩
                  have HOV : Hid (Blk V O ((List.range (a + 1)).map (fun j => .bool (opn m bl gs (cellOf m j))) ++ l) 4) := by
                    have := hO6.out.set a (.bool ov)
                    rw [set_mid _ _ _ _ (by simp), ← hV] at this
                    rw [List.range_succ, List.map_append, List.map_cons, List.map_nil, HOP.out]
                    exact hid this
                  rw [← hV] at hT
                  have HDV : Hid (IB V D d0) := hid (Blk.turn (Blk.below HD5.out hn6.out (Blk.lt HD5.out)) hT (by have := HWD0.out; omega))
                  have HRV : Hid (Below D w1 V) := hid ((HR5.out.trans (hn6.out.mono HWD.out)).trans (hT.below (by have := HWD0.out; omega)))
                  have HV := hid (fun (_ : Nat) => hV)
                  clear hV hT hO6 hn6
                  go_wp2
                  rw [← HV.out 0]
                  go_roundw
                  case rel => exact ⟨a + 1, l, by have := HAL.out; omega, by simp, HRV, HDV, HOV⟩
                  case measure =>
                    have := HAL.out
                    simp [intOf]; omega
              | nil =>
                simp only [List.length_nil, Nat.add_zero] at hal
                subst hal
                have hl' : ((a : Int) < (a : Int)) = False := by simp
                obtain ⟨OL, hOL⟩ : ∃ OL, OL = (List.range a).map (fun j => Value.bool (opn m bl gs (cellOf m j))) := ⟨_, rfl⟩
                have HOL : Hid (∀ j, j < a → OL[j]? = some (.bool (opn m bl gs (cellOf m j)))) := hid fun j hj => by
                  rw [hOL, List.getElem?_map, List.getElem?_range hj]; rfl
                have HOO : Hid (Blk wr O OL 4) := by
                  have := HO5.out
                  rw [List.append_nil, ← hOL] at this
                  exact hid this
                have HS0 : Hid (true = false → ∀ i, i < a → ∀ x ∈ nr m (cellOf m i), opn m bl gs x = true → d0.getD i 0 ≤ d0.getD (idx m x) 0 + 1) := hid fun h => by cases h
                have HRO := HR5
                have HDO := HD5
                clear hOL HO5 HR5 HD5 H29 h21 HT9
                go_upto_region 20 with fail
                clear hl'
                go_loopw [13] (fun mv wr => ∃ (b : Bool) (d : List Int), mv = .bool b ∧ Hid (Below D w1 wr) ∧ Hid (IB wr D d) ∧ Hid (Blk wr O OL 4) ∧ Hid (Good m bl gs a d) ∧ Hid (Zero m gs d) ∧ Hid (b = false → ∀ i, i < a → ∀ x ∈ nr m (cellOf m i), opn m bl gs x = true → d.getD i 0 ≤ d.getD (idx m x) 0 + 1)) (fun mv wr => 2 * memSum wr D + (match mv with | .bool true => 1 | _ => 0))
                case atStart => exact ⟨true, d0, rfl, HRO, HDO, HOO, HGD, HZR, HS0⟩
                case round =>
                  clear HRO HDO HOO HGD HZR HS0
                  obtain ⟨b, d, rfl, HR6, HD6, HO6, HG6, HZ6, HS6⟩ := hrel
                  cases b with
                  | true =>
                    have HMS : Hid (memSum wr D = sumN d) := hid HD6.out.sum
                    go_upto_region 23 with fail
                    go_loopw [14, 13] (fun iv mv wr => ∃ (i : Nat) (b : Bool) (e : List Int), iv = .int .i64 (i : Int) ∧ mv = .bool b ∧ i ≤ a ∧ Hid (Below D w1 wr) ∧ Hid (IB wr D e) ∧ Hid (Blk wr O OL 4) ∧ Hid (Good m bl gs a e) ∧ Hid (Zero m gs e) ∧ Hid (b = false → e = d ∧ ∀ i', i' < i → ∀ x ∈ nr m (cellOf m i'), opn m bl gs x = true → d.getD i' 0 ≤ d.getD (idx m x) 0 + 1) ∧ Hid (b = true → sumN e < sumN d)) (fun iv _ _ => a - (intOf iv).toNat)
                    case atStart => exact ⟨0, false, d, rfl, rfl, by omega, HR6, HD6, HO6, HG6, HZ6, hid fun _ => ⟨rfl, fun i' hi => by omega⟩, hid fun h => by cases h⟩
                    case round =>
                      clear HR6 HD6 HO6 HG6 HZ6
                      obtain ⟨i, b, e, rfl, rfl, hi, HR7, HD7, HO7, HG7, HZ7, HQ7, HU7⟩ := hrel
                      by_cases hl : i < a
                      · have hl' : (i : Int) < (a : Int) := by omega
                        have ha0 : (0 : Int) ≤ (i : Int) := by omega
                        have HIA2 := hid hl
                        have HIL := hid hi
                        have hnr := fun W' h => H30.out i W' hl h
                        rw [HCO.out i] at hnr
                        simp only at hnr
                        have hz : (mW = 0) = False := by simp; omega
                        have ht1 : (i : Int).tmod mW = (i : Int) % mW := Int.tmod_eq_emod_of_nonneg ha0
                        have ht2 : (i : Int).tdiv mW = (i : Int) / mW := Int.tdiv_eq_ediv_of_nonneg ha0
                        have hq1 : 0 ≤ (i : Int) / mW := Int.ediv_nonneg ha0 (by omega)
                        have hq2 : (i : Int) / mW ≤ 9223372036854775807 := by have := Int.ediv_le_self mW ha0; omega
                        obtain ⟨x, hx⟩ : ∃ x, x = (i : Int) % mW := ⟨_, rfl⟩
                        obtain ⟨y, hy⟩ : ∃ y, y = (i : Int) / mW := ⟨_, rfl⟩
                        have HXY : Hid (cellOf m i = (x, y)) := by rw [HCO.out i, hx, hy]; exact hid rfl
                        rw [← hx, ← hy] at hnr
                        rw [← hx] at ht1
                        rw [← hy] at ht2 hq1 hq2
                        have HNR := hid hnr
                        clear hx hy hnr
                        have hwy : IntKind.i64.wrap y = y := by rw [IntKind.wrap_i64]; omega
                        clear hq1 hq2
                        go_upto_region 25 with fail
                        have m0 : ∀ z : Nb D w1, z.w.cell? ⟨B, 0, none⟩ = some (.int .i64 mW) := fun z => (HK.out z.w (HBT.out _ z.h)).1
                        have m1 : ∀ z : Nb D w1, z.w.cell? ⟨B, 1, none⟩ = some (.int .i64 mH) := fun z => (HK.out z.w (HBT.out _ z.h)).2.1
                        have m2 : ∀ z : Nb D w1, z.w.cell? ⟨B, 2, none⟩ = some S1 := fun z => (HK.out z.w (HBT.out _ z.h)).2.2.1
                        have m3 : ∀ z : Nb D w1, z.w.cell? ⟨B, 3, none⟩ = some S2 := fun z => (HK.out z.w (HBT.out _ z.h)).2.2.2
                        refine wp_region_calm (S := fun w' => ∃ z : Nb D w1, w' = z.w) [(0, false), (1, false), (2, false), (3, false), (4, false), (5, false), (6, false), (7, false), (8, false), (9, false), (10, true), (11, true)] (by kernel_rfl) (by kernel_rfl) rfl (by kernel_rfl) ⟨⟨wr.drew, below_drew HR7.out⟩, rfl⟩ ?_
                        repeat (refine plan_take rfl (fun K hK => ?_); go_simp; refine ⟨_, fun _ => rfl, hK _ ?_⟩; clear hK K)
                        refine plan_turn rfl (fun K hK => ?_)
                        go_simp
                        refine Calls.mono (HNR.out _ (HBE.out _ (HBT.out _ (below_drew HR7.out)))) ?_
                        rintro _ w8 ⟨vn, rfl, hon, hb8⟩
                        have hn8 : Below wr.heap.size wr w8 := ⟨hb8.os, hb8.tape, hb8.output, hb8.size, hb8.block⟩
                        have HWD : Hid (D < wr.heap.size ∧ O < wr.heap.size) := hid ⟨Blk.lt HD7.out, Blk.lt HO7.out⟩
                        have HR8 : Hid (Below D w1 w8) := hid (HR7.out.trans (hn8.mono (by have := HWD.out; omega)))
                        refine hK _ _ ⟨⟨w8, HR8.out⟩, rfl⟩ ?_
                        clear hK K
                        refine plan_turn rfl (fun K hK => ?_)
                        go_simp
                        refine hK _ _ ⟨⟨w8, HR8.out⟩, rfl⟩ ?_
                        clear hK K
                        refine plan_done ⟨rfl, ?_⟩
                        obtain ⟨l, hle⟩ : ∃ l, l = nr m (x, y) := ⟨_, rfl⟩
                        have hon' : OwnC w8 wr.heap.size vn (nr m (x, y)) := hon
                        clear hon
                        rw [← hle] at hon'
                        obtain ⟨pn, capn, rfl⟩ := hon'.form
                        have HLN : Hid (l.length ≤ 4) := by rw [hle]; exact hid (HNL'.out (x, y))
                        have HMEM : Hid (∀ k, k < l.length → l.getD k (0, 0) ∈ nr m (cellOf m i) ∧ inn m (l.getD k (0, 0)) = true) := hid fun k hk => by
                          have h1 : l.getD k (0, 0) ∈ nr m (x, y) := by
                            rw [← hle, List.getD_eq_getElem?_getD, List.getElem?_eq_getElem hk]
                            exact List.getElem_mem hk
                          exact ⟨by rw [HXY.out]; exact h1, HNI'.out _ _ h1⟩
                        have HALL : Hid (∀ x' ∈ nr m (cellOf m i), ∃ k, k < l.length ∧ l.getD k (0, 0) = x') := hid fun x' hx' => by
                          rw [HXY.out, ← hle] at hx'
                          obtain ⟨k, hk, he⟩ := List.getElem_of_mem hx'
                          exact ⟨k, hk, by rw [List.getD_eq_getElem?_getD, List.getElem?_eq_getElem hk]; exact he⟩
                        obtain ⟨P, hP⟩ : ∃ P, P = wr.heap.size := ⟨_, rfl⟩
                        rw [← hP] at hon' HWD hn8
                        have HON := hid hon'
                        have HD8 : Hid (IB w8 D e) := hid (Blk.below HD7.out hn8 HWD.out.1)
                        have HO8 : Hid (Blk w8 O OL 4) := hid (Blk.below HO7.out hn8 HWD.out.2)
                        have HQK : Hid (b = false → e = d ∧ (∀ i', i' < i → ∀ x ∈ nr m (cellOf m i'), opn m bl gs x = true → d.getD i' 0 ≤ d.getD (idx m x) 0 + 1) ∧ ∀ k', k' < 0 → opn m bl gs (l.getD k' (0, 0)) = true → d.getD i 0 ≤ d.getD (idx m (l.getD k' (0, 0))) 0 + 1) := hid fun h => ⟨(HQ7.out h).1, (HQ7.out h).2, fun k' hk => by omega⟩
                        clear hle hP hon' hn8 hb8 hl hi hl' m0 m1 m2 m3 hz ht1 ht2 hwy HR7 HD7 HO7 HQ7 HNR
                        go_upto_region 27 with fail
                        go_loopw [16, 13] (fun kv mv wr => ∃ (k : Nat) (b : Bool) (e : List Int), kv = .int .i64 (k : Int) ∧ mv = .bool b ∧ k ≤ l.length ∧ Hid (Below D w1 wr) ∧ Hid (IB wr D e) ∧ Hid (Blk wr O OL 4) ∧ Hid (OwnC wr P (.slice pn l.length capn) l) ∧ Hid (Good m bl gs a e) ∧ Hid (Zero m gs e) ∧ Hid (b = false → e = d ∧ (∀ i', i' < i → ∀ x ∈ nr m (cellOf m i'), opn m bl gs x = true → d.getD i' 0 ≤ d.getD (idx m x) 0 + 1) ∧ ∀ k', k' < k → opn m bl gs (l.getD k' (0, 0)) = true → d.getD i 0 ≤ d.getD (idx m (l.getD k' (0, 0))) 0 + 1) ∧ Hid (b = true → sumN e < sumN d)) (fun kv _ _ => 5 - (intOf kv).toNat)
                        case atStart => exact ⟨0, b, e, rfl, rfl, by omega, HR8, HD8, HO8, HON, HG7, HZ7, hid fun h => ⟨(HQK.out h).1, (HQK.out h).2.1, fun k' hk => by omega⟩, HU7⟩
                        case round =>
                          clear HR8 HD8 HO8 HON HG7 HZ7 HQK HU7
                          obtain ⟨k, b, e, rfl, rfl, hkl, HR9, HD9, HO9, HON, HG9, HZ9, HQ9, HU9⟩ := hrel
                          by_cases hl : k < l.length
                          · have hl' : (k : Int) < (l.length : Int) := by omega
                            have hk0 : (0 : Int) ≤ (k : Int) := by omega
                            have HKL := hid hl
                            have HWK : Hid (wrap64 ((k : Int) + 1) = (k : Int) + 1) := hid (by have := HLN.out; unfold wrap64; omega)
                            obtain ⟨hmem, hinn⟩ := HMEM.out k hl
                            obtain ⟨sb, so, rfl, d0', d1'⟩ := HON.out.cells.at hl
                            obtain ⟨⟨nx, ny⟩, hnn⟩ : ∃ c, c = l.getD k (0, 0) := ⟨_, rfl⟩
                            have HQ9' : Hid (b = false → e = d ∧ (∀ i', i' < i → ∀ x ∈ nr m (cellOf m i'), opn m bl gs x = true → d.getD i' 0 ≤ d.getD (idx m x) 0 + 1) ∧ ∀ k', k' < k → opn m bl gs (l.getD k' (0, 0)) = true → d.getD i 0 ≤ d.getD (idx m (l.getD k' (0, 0))) 0 + 1) := HQ9
                            have HNN := hid (fun (_ : Nat) => hnn)
                            rw [← hnn] at hmem hinn d0' d1'
                            simp only at d0' d1'
                            obtain ⟨j1, j2, j3, j4⟩ := HIX'.out (nx, ny) hinn
                            simp only at j2 j3 j4
                            have hoj := HOL.out _ j1
                            have hcell : cellOf m (idx m (nx, ny)) = (nx, ny) := HCI.out _ hinn
                            rw [hcell] at hoj
                            have o0 : wr.cell? ⟨O, idx m (nx, ny), none⟩ = some (.bool (opn m bl gs (nx, ny))) := by rw [HO9.out.cell]; exact hoj
                            have cj := HD9.out.cell (i := idx m (nx, ny)) (by rw [HG9.out.len]; exact j1)
                            have ci := HD9.out.cell (i := i) (by rw [HG9.out.len]; exact HIA2.out)
                            have lj := HG9.out.lo _ j1
                            have li := HG9.out.lo i HIA2.out
                            have HSP := hid (fun ho hlt => HST'.out e HG9.out HZ9.out i HIA2.out (nx, ny) hmem ho hlt)
                            have HED : Hid (b = false → e = d) := hid fun h => (HQ9.out h).1
                            have HQD : Hid (b = false → d.getD i 0 = e.getD i 0 ∧ d.getD (idx m (nx, ny)) 0 = e.getD (idx m (nx, ny)) 0) := hid fun h => by rw [(HQ9.out h).1]; exact ⟨rfl, rfl⟩
                            have HQS : Hid ((opn m bl gs (nx, ny) = true → e.getD i 0 ≤ e.getD (idx m (nx, ny)) 0 + 1) → b = false → e = d ∧ (∀ i', i' < i → ∀ x ∈ nr m (cellOf m i'), opn m bl gs x = true → d.getD i' 0 ≤ d.getD (idx m x) 0 + 1) ∧ ∀ k', k' < k + 1 → opn m bl gs (l.getD k' (0, 0)) = true → d.getD i 0 ≤ d.getD (idx m (l.getD k' (0, 0))) 0 + 1) := hid fun hh hb => by
                              obtain ⟨h1, h2, h3⟩ := HQ9.out hb
                              obtain ⟨g1, g2⟩ := HQD.out hb
                              refine ⟨h1, h2, fun k' hk' ho' => ?_⟩
                              rcases Nat.lt_or_ge k' k with hlt | hge
                              · exact h3 k' hlt ho'
                              · obtain rfl : k' = k := by omega
                                rw [← HNN.out 0] at ho' ⊢
                                rw [g1, g2]
                                exact hh ho'
                            clear hnn hmem hinn hoj hcell HQ9 HQ9' HQD hl hkl
                            generalize idx m (nx, ny) = j at *
                            generalize opn m bl gs (nx, ny) = ov at *
                            generalize e.getD j 0 = dj at *
                            generalize e.getD i 0 = di at *
                            have hwm : IntKind.i64.wrap (ny * mW) = ny * mW := by rw [IntKind.wrap_i64]; omega
                            have hwa : IntKind.i64.wrap (ny * mW + nx) = (j : Int) := by rw [j2, IntKind.wrap_i64]; have := HT4.out; omega
                            have hwm' : wrap64 (ny * mW) = ny * mW := by unfold wrap64; omega
                            have hwa' : wrap64 (ny * mW + nx) = (j : Int) := by rw [j2]; unfold wrap64; have := HT4.out; omega
                            have hwd : IntKind.i64.wrap (dj + 1) = dj + 1 := by rw [IntKind.wrap_i64]; omega
                            have hwd' : wrap64 (dj + 1) = dj + 1 := by unfold wrap64; omega
                            have hj0 : (0 : Int) ≤ (j : Int) := by omega
                            have hja : (j : Int) < (a : Int) := by omega
                            have hi0 : (0 : Int) ≤ (i : Int) := by omega
                            have hia : (i : Int) < (a : Int) := by have := HIA2.out; omega
                            obtain ⟨m0, m1, -, -⟩ := HK.out _ (HBT.out _ HR9.out)
                            have HR10 := hid (fun n => hid (Below.drewN HR9.out n))
                            clear j1 j2 j3 j4
                            go_upto_region 29 with fail
                            go_still (by kernel_rfl)
                            clear hwm hwa hwm' hwa' m0 m1 d0' d1' hl' hk0
                            cases ov with
                            | false =>
                              have HQS := hid (HQS.out (fun h => by cases h))
                              clear HSP
                              go_upto_region 30 with fail
                              go_quiet (fail)
                              go_wp2
                              go_roundw
                              case rel => exact ⟨k + 1, b, e, by first | (rw [HWK.out]; simp) | simp, rfl, HKL.out, HR10.out _, HD9, HO9, HON, HG9, HZ9, HQS, HU9⟩
                              case measure =>
                                have := HLN.out
                                have := HKL.out
                                first
                                  | (rw [HWK.out]; simp [intOf]; omega)
                                  | (simp [intOf]; omega)
                            | true =>
                              by_cases hlt : dj + 1 < di
                              · have hlt2 : decide (dj + 1 < di) = true := by simp; omega
                                obtain ⟨s1, s2, s3⟩ := HSP.out rfl hlt
                                have HG10 := hid s1
                                have HZ10 := hid s2
                                have HU10 : Hid (true = true → sumN (e.set i (dj + 1)) < sumN d) := hid fun _ => by
                                  cases b with
                                  | true => have := HU9.out rfl; omega
                                  | false => rw [← HED.out rfl]; exact s3
                                have z0 := Blk.frozen HD9.out i
                                have hT := turn_one wr D i (.int .i64 (dj + 1))
                                have HDV : Hid (∀ n, Hid (IB ((wr.setCell ⟨D, i, none⟩ (.int .i64 (dj + 1))).drewN n) D (e.set i (dj + 1)))) := hid fun n => hid (HD9.out.set i (dj + 1))
                                have HRV : Hid (∀ n, Hid (Below D w1 ((wr.setCell ⟨D, i, none⟩ (.int .i64 (dj + 1))).drewN n))) := hid fun n => hid (Below.drewN (HR9.out.trans (hT.below (Nat.le_refl _))) n)
                                have HOV : Hid (∀ n, Hid (Blk ((wr.setCell ⟨D, i, none⟩ (.int .i64 (dj + 1))).drewN n) O OL 4)) := hid fun n => hid ((Blk.turn HO9.out hT (Nat.ne_of_gt HDLO.out)).drewN n)
                                have HNV : Hid (∀ n, Hid (OwnC ((wr.setCell ⟨D, i, none⟩ (.int .i64 (dj + 1))).drewN n) P (.slice (some ⟨sb, so, none⟩) l.length capn) l)) := hid fun n => hid (OwnC.stay (HON.out.stay fun j hj => hT.block j (by have := (HON.out.block j hj).1; have := HWD.out; omega)) fun _ _ => rfl)
                                clear HSP hlt s1 s2 s3 hT
                                go_upto_region 30 with fail
                                go_quiet (fail)
                                go_wp2
                                go_roundw
                                case rel => exact ⟨k + 1, true, _, by first | (rw [HWK.out]; simp) | simp, rfl, HKL.out, HRV.out _, HDV.out _, HOV.out _, HNV.out _, HG10, HZ10, hid (fun h => by cases h), HU10⟩
                                case measure =>
                                  have := HLN.out
                                  have := HKL.out
                                  first
                                    | (rw [HWK.out]; simp [intOf]; omega)
                                    | (simp [intOf]; omega)
                              · have hlt' : (dj + 1 < di) = False := by simp; omega
                                have hlt2 : decide (dj + 1 < di) = false := by simp; omega
                                have HQS := hid (HQS.out (fun _ => by omega))
                                clear HSP hlt
                                go_upto_region 30 with fail
                                go_quiet (fail)
                                go_wp2
                                go_roundw
                                case rel => exact ⟨k + 1, b, e, by first | (rw [HWK.out]; simp) | simp, rfl, HKL.out, HR10.out _, HD9, HO9, HON, HG9, HZ9, HQS, HU9⟩
                                case measure =>
                                  have := HLN.out
                                  have := HKL.out
                                  first
                                    | (rw [HWK.out]; simp [intOf]; omega)
                                    | (simp [intOf]; omega)
                          · obtain rfl : k = l.length := by omega
                            have hl' : ((l.length : Int) < (l.length : Int)) = False := by simp
                            have HQN : Hid (b = false → e = d ∧ ∀ i', i' < i + 1 → ∀ x ∈ nr m (cellOf m i'), opn m bl gs x = true → d.getD i' 0 ≤ d.getD (idx m x) 0 + 1) := hid fun h => by
                              obtain ⟨h1, h2, h3⟩ := HQ9.out h
                              refine ⟨h1, fun i' hi' x' hx' ho' => ?_⟩
                              rcases Nat.lt_or_ge i' i with hlt | hge
                              · exact h2 i' hlt x' hx' ho'
                              · obtain rfl : i' = i := by omega
                                obtain ⟨k', hk', rfl⟩ := HALL.out x' hx'
                                exact h3 k' hk' ho'
                            have HW1 : Hid (wrap64 ((i : Int) + 1) = (i : Int) + 1) := hid (by have := HIA2.out; have := HT4.out; unfold wrap64; omega)
                            clear hkl hl
                            go_wp2
                            go_roundw
                            case rel => exact ⟨i + 1, b, e, by first | (rw [HW1.out]; simp) | simp, rfl, HIA2.out, HR9, HD9, HO9, HG9, HZ9, HQN, HU9⟩
                            case measure =>
                              have := HIA2.out
                              first
                                | (rw [HW1.out]; simp [intOf]; omega)
                                | (simp [intOf]; omega)
                      · obtain rfl : i = a := by omega
                        have hl' : ((i : Int) < (i : Int)) = False := by simp
                        clear hl hi
                        go_wp2
                        go_roundw
                        case rel => exact ⟨b, e, rfl, HR7, HD7, HO7, HG7, HZ7, hid fun hb => by
                          obtain ⟨rfl, h⟩ := HQ7.out hb
                          exact h⟩
                        case measure =>
                          rw [HMS.out, HD7.out.sum]
                          cases b with
                          | true => have := HU7.out rfl; simp only; omega
                          | false =>
                            obtain ⟨h, -⟩ := HQ7.out rfl
                            rw [h]
                            simp only; omega
                  | false =>
                    have HFIN := hid (HDN2.out d HG6.out HZ6.out (HS6.out rfl))
                    have HLD : Hid (d.length = a) := hid HG6.out.len
                    have HD7 : Hid (IB wr D (endD d 0)) := by rw [endD_zero]; exact HD6
                    have HR7 := HR6
                    go_upto_region 34 with fail
                    go_loopw [18] (fun iv wr => ∃ i : Nat, i ≤ a ∧ iv = .int .i64 (i : Int) ∧ Hid (Below D w1 wr) ∧ Hid (IB wr D (endD d i))) (fun iv _ => a - (intOf iv).toNat)
                    case atStart => exact ⟨0, by omega, rfl, HR7, HD7⟩
                    case round =>
                      clear HR6 HD6 HO6 HG6 HZ6 HS6 HD7 HR7
                      obtain ⟨i, hi, rfl, HR8, HD8⟩ := hrel
                      by_cases hl : i < a
                      · have hl' : (i : Int) < (a : Int) := by omega
                        have hi0 : (0 : Int) ≤ (i : Int) := by omega
                        have HIA2 := hid hl
                        have hdl : i < d.length := by rw [HLD.out]; exact hl
                        have c0 := HD8.out.cell (i := i) (by rw [endD_len]; exact hdl)
                        rw [endD_get hdl] at c0
                        have z0 := Blk.frozen HD8.out i
                        have HNX : Hid (d.getD i 0 ≠ 1000000 → endD d (i + 1) = endD d i) := hid fun h => endD_keep hdl h
                        have HNS : Hid (d.getD i 0 = 1000000 → endD d (i + 1) = (endD d i).set i (-1)) := hid fun h => endD_set hdl h
                        generalize d.getD i 0 = dv at *
                        clear hl hi
                        by_cases hdv : dv = 1000000
                        · subst hdv
                          obtain ⟨V, hV⟩ : ∃ V, V = wr.setCell ⟨D, i, none⟩ (.int .i64 (-1)) := ⟨_, rfl⟩
                          have hT := turn_one wr D i (.int .i64 (-1))
                          have HDV : Hid (IB V D (endD d (i + 1))) := by rw [HNS.out rfl, hV]; exact hid (HD8.out.set i (-1))
                          rw [← hV] at hT
                          have HRV : Hid (Below D w1 V) := hid (HR8.out.trans (hT.below (Nat.le_refl _)))
                          have HV := hid (fun (_ : Nat) => hV)
                          clear hT hV hdl
                          go_wp2
                          rw [← HV.out 0]
                          go_roundw
                          case rel => exact ⟨i + 1, HIA2.out, by simp, HRV, HDV⟩
                          case measure =>
                            have := HIA2.out
                            simp [intOf]; omega
                        · have hdv' : (dv == 1000000) = false := by simpa using hdv
                          have HDV : Hid (IB wr D (endD d (i + 1))) := by rw [HNX.out hdv]; exact HD8
                          clear hdl hdv
                          go_wp2
                          go_roundw
                          case rel => exact ⟨i + 1, HIA2.out, by simp, HR8, HDV⟩
                          case measure =>
                            have := HIA2.out
                            simp [intOf]; omega
                      · obtain rfl : i = a := by omega
                        have hl' : ((i : Int) < (i : Int)) = False := by simp
                        clear hl hi
                        have HE := HBE.out _ (HBT.out _ HR8.out)
                        rw [HB.out 0] at HE
                        rw [HFIN.out] at HD8
                        go_wp2
                        go_ret2
                        first
                          | exact ⟨_, rfl, HE, fun h => absurd rfl h, fun _ => ⟨D, rfl, HD8.out⟩⟩
                          | exact ⟨_, rfl, HE, D, rfl, HD8.out⟩
end Go.Proofs.Ytgkjlfpkhpnpfaa
