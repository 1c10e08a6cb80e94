/- The reference: Distances. -/
import Derived.Test.YtemcbonmlmobkaaRefShut
import Derived.Test.YtemcbonmlmobkaaRefNo
import Derived.Test.YtemcbonmlmobkaaPlan
import Derived.Test.YtemcbonmlmobkaaNx
namespace Go.Proofs.Ytemcbonmlmobkaa
open Go.RowKit
attribute [local go_sem ↓] run_neqC run_eqlC
structure Nb (B : Nat) (W : World) where
  w : World
  h : Below B W w
def opB (m : Mp) (bl : List Cl) (b x : Cl) : Bool := x == b || pass m bl x
theorem opB_iff {m : Mp} {bl : List Cl} {b x : Cl} : opB m bl b x = true ↔ (x = b ∨ pass m bl x = true) := by
  unfold opB
  rw [Bool.or_eq_true, beq_iff_eq]
def distV (m : Mp) (bl : List Cl) (b c : Cl) : Int := match fV m bl b c with
  | none => 1000000
  | some n => (n : Int)
theorem Blk.turn {w w' : World} {b g : Nat} {l : List Value} {t : TypeId} (h : Blk w g l t) (ht : Turn b w w') (hb : g ≠ b) : Blk w' g l t := by
  unfold Blk at h ⊢
  rw [ht.block g hb]
  exact h
def begD (m : Mp) (gl : Cl) (T : Nat) : List Int := (List.replicate T 1000000).set (idx m gl) 0
theorem begD_good {m : Mp} {bl : List Cl} {gl : Cl} {T : Nat} (hf : formed m = true) (hT : m.W * m.H = (T : Int)) (hi : inn m gl = true) : Good m bl gl T (begD m gl T) ∧ Zero m gl (begD m gl T) := by
  refine ⟨good_goal hf hT (good_begin m bl gl T) rfl hi, fun c hc => ?_⟩
  subst hc
  unfold begD
  rw [getD_set _ _ _ _ (by rw [List.length_replicate]; exact (idx_lt hf hT hi).1), if_pos rfl]
set_option maxRecDepth 4000 in
set_option maxHeartbeats 16000000 in
theorem refDis_any (m : Mp) (v : Value) (bl : List Cl) (p1 : Option Addr) (N1 c1 T : Nat) (gx gy : Int) (w : World) (hm : MapAt w v m) (hbl : CellsAt w (.slice p1 N1 c1) bl) (hN : N1 ≤ 1000) (hf : formed m = true) (hT : m.W * m.H = (T : Int)) (hg : inn m (gx, gy) = true) :
    Calls Try.prog 26 #[v, .slice p1 N1 c1, C gx gy] w fun e w' => ∃ g d, e = .returned (.slice (some ⟨g, 0, none⟩) T T) ∧ w.heap.size ≤ g ∧ Below w.heap.size w w' ∧ IB w' g d ∧ d.length = T ∧ ∀ i, i < T → d.getD i 0 = distV m bl (gx, gy) (cellOf m i) := by
  obtain ⟨gl, hgl⟩ : ∃ gl : Cl, gl = (gx, gy) := ⟨_, rfl⟩
  rw [← hgl] at hg ⊢
  have hNb : N1 = bl.length := by obtain ⟨q, c, e, _⟩ := hbl; simp only [Value.slice.injEq] at e; exact e.2.1
  obtain ⟨f1, f2, f3, f4, -⟩ := formed_of hf
  have hp := prod_bound f1 f2
  have hT2 : 16 ≤ T ∧ T ≤ 400 := by omega
  have h25 : Hid (∀ W, Below w.heap.size w W → Calls Try.prog 25 #[v, .slice p1 N1 c1] W fun e w' => ∃ g, e = .returned (.slice (some ⟨g, 0, none⟩) T T) ∧ W.heap.size ≤ g ∧ Below W.heap.size W w' ∧ BB w' g (noB m bl T N1)) := fun W h => refShut_any m v bl p1 N1 c1 T W (hm.below h) (hbl.below h) hN hf hT
  have H30 : Hid (∀ i W, i < T → Below w.heap.size w W → Calls Try.prog 27 #[v, C (cellOf m i).1 (cellOf m i).2] W fun e w' => OutOwn W (nr m (cellOf m i)) e w') := fun i W hi h => by
    have hp := holds_of (cell_in hf hT hi)
    exact refNear_own m v _ _ W (by omega) (by omega) (hm.below h)
  obtain ⟨hb1, hb2⟩ := begD_good (bl := bl) hf hT hg
  have HGD0 := hid hb1
  have HZR0 := hid hb2
  have HBD : Hid (begD m gl T = (List.replicate T 1000000).set (idx m gl) 0) := hid rfl
  have HIX' : Hid (∀ c, inn m c = true → idx m c < T ∧ c.2 * m.W + c.1 = (idx m c : Int) ∧ 0 ≤ c.2 * m.W ∧ c.2 * m.W ≤ 400) := fun c hc => by
    have hq := place_lt f1 f2 (holds_of hc)
    have := idx_lt hf hT hc
    exact ⟨this.1, this.2, hq.1, hq.2.1⟩
  have HIG := hid (HIX'.out gl hg)
  have HST' : Hid (∀ d, Good m bl gl T d → Zero m gl d → ∀ i, i < T → ∀ x, x ∈ nr m (cellOf m i) → opB m bl gl x = true → d.getD (idx m x) 0 + 1 < d.getD i 0 → Good m bl gl T (d.set i (d.getD (idx m x) 0 + 1)) ∧ Zero m gl (d.set i (d.getD (idx m x) 0 + 1)) ∧ sumN (d.set i (d.getD (idx m x) 0 + 1)) < sumN d) := fun d h hz i hi x hx ho hlt => good_step hf hT h hz hi hx (opB_iff.1 ho) hlt
  have HDN : Hid (∀ d, Good m bl gl T d → Zero m gl d → (∀ i, i < T → ∀ x ∈ nr m (cellOf m i), opB m bl gl x = true → d.getD i 0 ≤ d.getD (idx m x) 0 + 1) → ∀ i, i < T → d.getD i 0 = distV m bl gl (cellOf m i)) := fun d h hz hs i hi => good_done hf hT h hz (fV_field hf hg) (fun i hi x hx ho => hs i hi x hx (opB_iff.2 ho)) i hi
  have HNI' : Hid (∀ c x, x ∈ nr m c → inn m x = true) := fun c x h => nr_in hf h
  have HNL' : Hid (∀ c, (nr m c).length ≤ 4) := fun c => by
    unfold nr near
    rw [if_pos hf]
    exact Nat.le_trans (List.length_filter_le _ _) (by simp [nbs])
  have HCI : Hid (∀ c, inn m c = true → cellOf m (idx m c) = c) := fun c hc => cell_idx hf hc
  have HCO : Hid (∀ i : Nat, cellOf m i = ((i : Int) % m.W, (i : Int) / m.W)) := hid fun i => rfl
  have HNOL := hid (noB_len m bl T N1)
  have HNOV : Hid (∀ j, j < T → (noB m bl T N1).getD j false = !pass m bl (cellOf m j)) := fun j hj => by rw [hNb]; exact noB_done hf hT hj
  have HOB : Hid (∀ x y, opB m bl gl (x, y) = (sameC x y gx gy || pass m bl (x, y))) := fun x y => by
    have e : ((x, y) == (gx, gy)) = decide ((x, y) = (gx, gy)) := by rw [Bool.eq_iff_iff, beq_iff_eq, decide_eq_true_eq]
    unfold opB sameC
    rw [hgl, e]
  have HGE : Hid (gl = (gx, gy)) := hgl
  clear hf hbl hg hgl hb1 hb2 f3 f4 hNb hN
  obtain ⟨q1, d1, q2, d2, rfl, -, -⟩ := hm
  obtain ⟨S1, hS1⟩ : ∃ z, z = Value.slice q1 m.ts.length d1 := ⟨_, rfl⟩
  obtain ⟨S2, hS2⟩ : ∃ z, z = Value.slice q2 m.os.length d2 := ⟨_, rfl⟩
  obtain ⟨S3, hS3⟩ : ∃ z, z = Value.slice p1 N1 c1 := ⟨_, rfl⟩
  obtain ⟨mW, hmW⟩ : ∃ z, z = m.W := ⟨_, rfl⟩
  obtain ⟨mH, hmH⟩ : ∃ z, z = m.H := ⟨_, rfl⟩
  obtain ⟨no, hno⟩ : ∃ z, z = noB m bl T N1 := ⟨_, rfl⟩
  rw [← hno] at HNOL HNOV h25
  rw [← hS1, ← hS2, ← hS3, ← hmW, ← hmH] at h25
  rw [← hS1, ← hS2, ← hmW, ← hmH] at H30
  rw [← hmW] at HIX' HIG HCO f1 hT
  rw [← hmH] at hT f2
  rw [← hmW, ← hmH, ← hS1, ← hS2, ← hS3]
  clear hS1 hS2 hS3 hmW hmH hno
  unfold C at *
  have HT4 := hid (And.intro f1 (And.intro f2 (And.intro hT2.2 hT2.1)))
  have HT1 : Hid (T ≤ 1000) := hid (by omega)
  have HMUL : Hid (wrap64 (mW * mH) = (T : Int)) := by rw [hT]; exact hid (wrap_small (by omega))
  clear hT hp hT2
  go_enter Try.func26, Try.ntmps26
  go_upto_region 1 with fail
  obtain ⟨W, hW⟩ : ∃ W, W = (w.alloc (.cells #[Value.int .i64 mW, .int .i64 mH, S1, S2] 24)).alloc (.cells #[Value.int .i64 gx, .int .i64 gy] 27) := ⟨_, rfl⟩
  obtain ⟨B, hB⟩ : ∃ B, B = w.heap.size := ⟨_, rfl⟩
  rw [← hW, ← hB]
  obtain ⟨hk, hbe⟩ := map_cell_box w mW mH _ _ gx gy W B hW hB
  have HK0 := hid hk
  have HBE0 := hid hbe
  have HBB := hid (fun (_ : Nat) => hB)
  have HSB : Hid (B ≤ W.heap.size) := hid (by rw [hW, hB]; simp; omega)
  obtain ⟨a0, a1, a2, a3, a4, a5⟩ := hk W (Below.refl _ _)
  rw [← hB] at h25 H30 HBE0
  clear hW hB hk hbe
  go_wp2_with fail
  refine Calls.mono (h25.out _ (HBE0.out W (Below.refl _ _))) ?_
  rintro _ w1 ⟨O, rfl, hO1, hb1, hO2⟩
  have HB1 := hid hb1
  have HO1 := hid hO1
  have HO2 := hid hO2
  clear hb1 hO1 hO2 a0 a1 a2 a3 a4 a5
  obtain ⟨a0, a1, a2, a3, a4, a5⟩ := HK0.out w1 HB1.out
  have hmul := HMUL.out
  go_upto_region 4 with (first
      | ((with_reducible refine wpL_makeI T HT1.out ?_ ?_ ?_); (first | rfl | exact congrArg (Value.int IntKind.i64) hmul | (simp only [hmul])); (first | rfl | exact congrArg (Value.int IntKind.i64) hmul | (simp only [hmul])); (intro w2 cur2 hc2 hl2 hb2); (have HC2 := hid hc2); (have HL2 := hid hl2); (have HB2 := hid hb2); clear hc2 hl2 hb2))
  obtain ⟨D, hD⟩ : ∃ D, D = w1.heap.size := ⟨_, rfl⟩
  rw [← hD] at HC2 HB2 ⊢
  have HDE := hid (fun (_ : Nat) => hD)
  have HOD : Hid (O < D) := by rw [hD]; exact hid (Blk.lt HO2.out)
  have HBT : Hid (∀ w', Below D w1 w' → Below W.heap.size W w') := hid fun w' h => HB1.out.trans (h.mono (by rw [hD]; exact HB1.out.size))
  have HBE : Hid (∀ w', Below W.heap.size W w' → Below B w w') := HBE0
  have HK : Hid (∀ w', Below W.heap.size W w' → w'.cell? ⟨B, 0, none⟩ = some (.int .i64 mW) ∧ w'.cell? ⟨B, 1, none⟩ = some (.int .i64 mH) ∧ w'.cell? ⟨B, 2, none⟩ = some S1 ∧ w'.cell? ⟨B, 3, none⟩ = some S2) := hid fun w' h => by
    obtain ⟨h0, h1, h2, h3, -, -⟩ := HK0.out w' h
    exact ⟨h0, h1, h2, h3⟩
  have HQB : Hid (∀ w', Below D w1 w' → w'.cell? ⟨B + 1, 0, none⟩ = some (.int .i64 gx) ∧ w'.cell? ⟨B + 1, 1, none⟩ = some (.int .i64 gy)) := hid fun w' h => by
    obtain ⟨-, -, -, -, h4, h5⟩ := HK0.out w' (HBT.out _ h)
    exact ⟨h4, h5⟩
  have HNO : Hid (∀ w', Below D w1 w' → BB w' O no) := hid fun w' h => Blk.below HO2.out h HOD.out
  have HL0 : Hid (Blk w2 D (List.replicate 0 (I 1000000) ++ cur2) 3) := HC2
  have HZN : Hid (∀ a : Nat, True) := hid fun _ => trivial
  clear hD HC2 a0 a1 a2 a3 a4 a5 hmul h25 HZN HO2
  go_loopw [9] (fun iv wr => ∃ (i : Nat) (l : List Value), i + l.length = T ∧ iv = .int .i64 (i : Int) ∧ Hid (Below D w1 wr) ∧ Hid (Blk wr D (List.replicate i (I 1000000) ++ l) 3)) (fun iv _ => T - (intOf iv).toNat)
  case atStart => exact ⟨0, cur2, by rw [HL2.out]; omega, rfl, HB2, HL0⟩
  case round =>
    clear HB2 HL0
    obtain ⟨a, l, hil, rfl, HR1, HA1⟩ := hrel
    cases l with
    | cons x l =>
      simp only [List.length_cons] at hil
      have hl' : (a : Int) < (T : Int) := by omega
      have hi0 : (0 : Int) ≤ (a : Int) := by omega
      have HIL := hid hil
      have c0 : wr.cell? ⟨D, a, none⟩ = some x := by rw [HA1.out.cell a, List.getElem?_append_right (by simp)]; simp
      have z0 := HA1.out.frozen a
      obtain ⟨V, hV⟩ : ∃ V, V = wr.setCell ⟨D, a, none⟩ (.int .i64 1000000) := ⟨_, rfl⟩
      have hT := turn_one wr D a (.int .i64 1000000)
      have HA2 : Hid (Blk V D (List.replicate (a + 1) (I 1000000) ++ l) 3) := by
        rw [hV]
        have := HA1.out.set a (.int .i64 1000000)
        rw [set_mid _ _ _ _ (by simp)] at this
        rw [List.replicate_succ']
        exact hid this
      rw [← hV] at hT
      have HR2 : Hid (Below D w1 V) := hid (HR1.out.trans (hT.below (Nat.le_refl _)))
      have HV := hid (fun (_ : Nat) => hV)
      have hi9 : (a : Int) + 1 ≤ 9223372036854775807 := by have := HT4.out; omega
      clear hV hT hil
      go_wp2
      rw [← HV.out 0]
      go_roundw
      case rel => exact ⟨a + 1, l, by have := HIL.out; omega, by simp, HR2, HA2⟩
      case measure =>
        have := HIL.out
        simp [intOf]; omega
    | nil =>
      simp only [List.length_nil, Nat.add_zero] at hil
      subst hil
      have HHL : Hid (((a : Int) < (a : Int)) = False) := hid (by simp)
      have hl' := HHL.out
      have HD0 : Hid (IB wr D (List.replicate a 1000000)) := by
        unfold IB
        rw [List.map_replicate]
        have := HA1.out
        rw [List.append_nil] at this
        exact hid this
      obtain ⟨j1, j2, j3, j4⟩ := HIG.out
      have hjl : idx m gl < (List.replicate a (1000000 : Int)).length := by rw [List.length_replicate]; exact j1
      have HBD2 := HBD
      obtain ⟨j, hj⟩ : ∃ j, j = idx m gl := ⟨_, rfl⟩
      rw [← hj] at j1 j2 hjl HBD2
      rw [HGE.out] at j2 j3 j4
      simp only at j2 j3 j4
      have hwm' : wrap64 (gy * mW) = gy * mW := by unfold wrap64; omega
      have hwa' : wrap64 (gy * mW + gx) = (j : Int) := by rw [j2]; unfold wrap64; have := HT4.out; omega
      obtain ⟨m0, m1, -, -⟩ := HK.out wr (HBT.out _ HR1.out)
      obtain ⟨q0, q1⟩ := HQB.out wr HR1.out
      have c0 := HD0.out.cell hjl
      have z0 := Blk.frozen HD0.out j
      have hj0 : (0 : Int) ≤ (j : Int) := by omega
      have hji : (j : Int) < (a : Int) := by omega
      have hT := turn_one wr D j (.int .i64 0)
      obtain ⟨V, hV⟩ : ∃ V, V = wr.setCell ⟨D, j, none⟩ (.int .i64 0) := ⟨_, rfl⟩
      have HDO : Hid (IB V D (begD m gl a)) := by
        rw [hV, HBD2.out]
        exact hid (HD0.out.set j 0)
      have HRO : Hid (Below D w1 V) := by rw [hV]; exact hid (HR1.out.trans (hT.below (Nat.le_refl _)))
      have HV := hid (fun (_ : Nat) => hV)
      clear hT hV hj j1 j2 j3 j4 hjl HBD HBD2 HD0 HA1
      go_upto_region 8 with fail
      rw [← HV.out 0]
      clear hl' hwm' hwa' m0 m1 q0 q1 c0 z0 hj0 hji HR1
      obtain ⟨d0, hd0⟩ : ∃ d0, d0 = begD m gl a := ⟨_, rfl⟩
      rw [← hd0] at HDO HGD0 HZR0
      have HGD := HGD0
      have HZR := HZR0
      clear hd0 HGD0 HZR0
      have HS0 : Hid (true = false → ∀ i, i < a → ∀ x ∈ nr m (cellOf m i), opB m bl gl x = true → d0.getD i 0 ≤ d0.getD (idx m x) 0 + 1) := hid fun h => by cases h
      go_upto_region 9 with fail
      go_loopw [10] (fun mv wr => ∃ (b : Bool) (d : List Int), mv = .bool b ∧ Hid (Below D w1 wr) ∧ Hid (IB wr D d) ∧ Hid (Good m bl gl a d) ∧ Hid (Zero m gl d) ∧ Hid (b = false → ∀ i, i < a → ∀ x ∈ nr m (cellOf m i), opB m bl gl x = true → d.getD i 0 ≤ d.getD (idx m x) 0 + 1)) (fun mv wr => 2 * memSum wr D + (match mv with | .bool true => 1 | _ => 0))
      case atStart => exact ⟨true, d0, rfl, HRO, HDO, HGD, HZR, HS0⟩
      case round =>
        clear HRO HDO HGD HZR HS0
        obtain ⟨b, d, rfl, HR6, HD6, HG6, HZ6, HS6⟩ := hrel
        cases b with
        | true =>
          have HMS : Hid (memSum wr D = sumN d) := hid HD6.out.sum
          go_upto_region 12 with fail
          go_loopw [11, 10] (fun iv mv wr => ∃ (i : Nat) (b : Bool) (e : List Int), iv = .int .i64 (i : Int) ∧ mv = .bool b ∧ i ≤ a ∧ Hid (Below D w1 wr) ∧ Hid (IB wr D e) ∧ Hid (Good m bl gl a e) ∧ Hid (Zero m gl e) ∧ Hid (b = false → e = d ∧ ∀ i', i' < i → ∀ x ∈ nr m (cellOf m i'), opB m bl gl x = true → d.getD i' 0 ≤ d.getD (idx m x) 0 + 1) ∧ Hid (b = true → sumN e < sumN d)) (fun iv _ _ => a - (intOf iv).toNat)
          case atStart => exact ⟨0, false, d, rfl, rfl, by omega, HR6, HD6, HG6, HZ6, hid fun _ => ⟨rfl, fun i' hi => by omega⟩, hid fun h => by cases h⟩
          case round =>
            clear HR6 HD6 HG6 HZ6
            obtain ⟨i, b, e, rfl, rfl, hi, HR7, HD7, HG7, HZ7, HQ7, HU7⟩ := hrel
            by_cases hl : i < a
            · have hl' : (i : Int) < (a : Int) := by omega
              have ha0 : (0 : Int) ≤ (i : Int) := by omega
              have HIA2 := hid hl
              have HIL := hid hi
              have hnr := fun W' h => H30.out i W' hl h
              rw [HCO.out i] at hnr
              simp only at hnr
              have hz : (mW = 0) = False := by simp; omega
              have ht1 : (i : Int).tmod mW = (i : Int) % mW := Int.tmod_eq_emod_of_nonneg ha0
              have ht2 : (i : Int).tdiv mW = (i : Int) / mW := Int.tdiv_eq_ediv_of_nonneg ha0
              have hq1 : 0 ≤ (i : Int) / mW := Int.ediv_nonneg ha0 (by omega)
              have hq2 : (i : Int) / mW ≤ 9223372036854775807 := by have := Int.ediv_le_self mW ha0; have := HT4.out; omega
              obtain ⟨x, hx⟩ : ∃ x, x = (i : Int) % mW := ⟨_, rfl⟩
              obtain ⟨y, hy⟩ : ∃ y, y = (i : Int) / mW := ⟨_, rfl⟩
              have HXY : Hid (cellOf m i = (x, y)) := by rw [HCO.out i, hx, hy]; exact hid rfl
              rw [← hx, ← hy] at hnr
              rw [← hx] at ht1
              rw [← hy] at ht2 hq1 hq2
              have HNR := hid hnr
              clear hx hy hnr
              have hwy : IntKind.i64.wrap y = y := by rw [IntKind.wrap_i64]; omega
              clear hq1 hq2
              go_upto_region 14 with fail
              have m0 : ∀ z : Nb D w1, z.w.cell? ⟨B, 0, none⟩ = some (.int .i64 mW) := fun z => (HK.out z.w (HBT.out _ z.h)).1
              have m1 : ∀ z : Nb D w1, z.w.cell? ⟨B, 1, none⟩ = some (.int .i64 mH) := fun z => (HK.out z.w (HBT.out _ z.h)).2.1
              have m2 : ∀ z : Nb D w1, z.w.cell? ⟨B, 2, none⟩ = some S1 := fun z => (HK.out z.w (HBT.out _ z.h)).2.2.1
              have m3 : ∀ z : Nb D w1, z.w.cell? ⟨B, 3, none⟩ = some S2 := fun z => (HK.out z.w (HBT.out _ z.h)).2.2.2
              refine wp_region_calm (S := fun w' => ∃ z : Nb D w1, w' = z.w) [(0, false), (1, false), (2, false), (3, false), (4, false), (5, false), (6, false), (7, false), (8, false), (9, false), (10, true), (11, true)] (by kernel_rfl) (by kernel_rfl) rfl (by kernel_rfl) ⟨⟨wr.drew, below_drew HR7.out⟩, rfl⟩ ?_
              repeat (refine plan_take rfl (fun K hK => ?_); go_simp; refine ⟨_, fun _ => rfl, hK _ ?_⟩; clear hK K)
              refine plan_turn rfl (fun K hK => ?_)
              go_simp
              refine Calls.mono (HNR.out _ (HBE.out _ (HBT.out _ (below_drew HR7.out)))) ?_
              rintro _ w8 ⟨vn, rfl, hon, hb8⟩
              have hn8 : Below wr.heap.size wr w8 := ⟨hb8.os, hb8.tape, hb8.output, hb8.size, hb8.block⟩
              have HWD : Hid (D < wr.heap.size) := hid (Blk.lt HD7.out)
              have HR8 : Hid (Below D w1 w8) := hid (HR7.out.trans (hn8.mono (by have := HWD.out; omega)))
              refine hK _ _ ⟨⟨w8, HR8.out⟩, rfl⟩ ?_
              clear hK K
              refine plan_turn rfl (fun K hK => ?_)
              go_simp
              refine hK _ _ ⟨⟨w8, HR8.out⟩, rfl⟩ ?_
              clear hK K
              refine plan_done ⟨rfl, ?_⟩
              obtain ⟨l, hle⟩ : ∃ l, l = nr m (x, y) := ⟨_, rfl⟩
              have hon' : OwnC w8 wr.heap.size vn (nr m (x, y)) := hon
              clear hon
              rw [← hle] at hon'
              obtain ⟨pn, capn, rfl⟩ := hon'.form
              have HLN : Hid (l.length ≤ 4) := by rw [hle]; exact hid (HNL'.out (x, y))
              have HMEM : Hid (∀ k, k < l.length → l.getD k (0, 0) ∈ nr m (cellOf m i) ∧ inn m (l.getD k (0, 0)) = true) := hid fun k hk => by
                have h1 : l.getD k (0, 0) ∈ nr m (x, y) := by
                  rw [← hle, List.getD_eq_getElem?_getD, List.getElem?_eq_getElem hk]
                  exact List.getElem_mem hk
                exact ⟨by rw [HXY.out]; exact h1, HNI'.out _ _ h1⟩
              have HALL : Hid (∀ x' ∈ nr m (cellOf m i), ∃ k, k < l.length ∧ l.getD k (0, 0) = x') := hid fun x' hx' => by
                rw [HXY.out, ← hle] at hx'
                obtain ⟨k, hk, he⟩ := List.getElem_of_mem hx'
                exact ⟨k, hk, by rw [List.getD_eq_getElem?_getD, List.getElem?_eq_getElem hk]; exact he⟩
              obtain ⟨P, hP⟩ : ∃ P, P = wr.heap.size := ⟨_, rfl⟩
              rw [← hP] at hon' HWD hn8
              have HON := hid hon'
              have HD8 : Hid (IB w8 D e) := hid (Blk.below HD7.out hn8 HWD.out)
              have HQK : Hid (b = false → e = d ∧ (∀ i', i' < i → ∀ x ∈ nr m (cellOf m i'), opB m bl gl x = true → d.getD i' 0 ≤ d.getD (idx m x) 0 + 1) ∧ ∀ k', k' < 0 → opB m bl gl (l.getD k' (0, 0)) = true → d.getD i 0 ≤ d.getD (idx m (l.getD k' (0, 0))) 0 + 1) := hid fun h => ⟨(HQ7.out h).1, (HQ7.out h).2, fun k' hk => by omega⟩
              clear hle hP hon' hn8 hb8 hl hi hl' m0 m1 m2 m3 hz ht1 ht2 hwy HR7 HD7 HQ7 HNR
              go_upto_region 16 with fail
              go_loopw [13, 10] (fun kv mv wr => ∃ (k : Nat) (b : Bool) (e : List Int), kv = .int .i64 (k : Int) ∧ mv = .bool b ∧ k ≤ l.length ∧ Hid (Below D w1 wr) ∧ Hid (IB wr D e) ∧ Hid (OwnC wr P (.slice pn l.length capn) l) ∧ Hid (Good m bl gl a e) ∧ Hid (Zero m gl e) ∧ Hid (b = false → e = d ∧ (∀ i', i' < i → ∀ x ∈ nr m (cellOf m i'), opB m bl gl x = true → d.getD i' 0 ≤ d.getD (idx m x) 0 + 1) ∧ ∀ k', k' < k → opB m bl gl (l.getD k' (0, 0)) = true → d.getD i 0 ≤ d.getD (idx m (l.getD k' (0, 0))) 0 + 1) ∧ Hid (b = true → sumN e < sumN d)) (fun kv _ _ => 5 - (intOf kv).toNat)
              case atStart => exact ⟨0, b, e, rfl, rfl, by omega, HR8, HD8, HON, HG7, HZ7, hid fun h => ⟨(HQK.out h).1, (HQK.out h).2.1, fun k' hk => by omega⟩, HU7⟩
              case round =>
                clear HR8 HD8 HON HG7 HZ7 HQK HU7
                obtain ⟨k, b, e, rfl, rfl, hkl, HR9, HD9, HON, HG9, HZ9, HQ9, HU9⟩ := hrel
                by_cases hl : k < l.length
                · have hl' : (k : Int) < (l.length : Int) := by omega
                  have hk0 : (0 : Int) ≤ (k : Int) := by omega
                  have HKL := hid hl
                  have HWK : Hid (wrap64 ((k : Int) + 1) = (k : Int) + 1) := hid (by have := HLN.out; unfold wrap64; omega)
                  obtain ⟨hmem, hinn⟩ := HMEM.out k hl
                  obtain ⟨sb, so, rfl, d0', d1'⟩ := HON.out.cells.at hl
                  obtain ⟨⟨nx, ny⟩, hnn⟩ : ∃ c, c = l.getD k (0, 0) := ⟨_, rfl⟩
                  have HQ9' : Hid (b = false → e = d ∧ (∀ i', i' < i → ∀ x ∈ nr m (cellOf m i'), opB m bl gl x = true → d.getD i' 0 ≤ d.getD (idx m x) 0 + 1) ∧ ∀ k', k' < k → opB m bl gl (l.getD k' (0, 0)) = true → d.getD i 0 ≤ d.getD (idx m (l.getD k' (0, 0))) 0 + 1) := HQ9
                  have HNN := hid (fun (_ : Nat) => hnn)
                  rw [← hnn] at hmem hinn d0' d1'
                  simp only at d0' d1'
                  obtain ⟨j1, j2, j3, j4⟩ := HIX'.out (nx, ny) hinn
                  simp only at j2 j3 j4
                  have hcell : cellOf m (idx m (nx, ny)) = (nx, ny) := HCI.out _ hinn
                  have o0 := (HNO.out _ HR9.out).cell (i := idx m (nx, ny)) (by rw [HNOL.out]; exact j1)
                  rw [HNOV.out _ j1, hcell] at o0
                  obtain ⟨q0, q1⟩ := HQB.out _ HR9.out
                  have hopv : opB m bl gl (nx, ny) = (sameC nx ny gx gy || pass m bl (nx, ny)) := HOB.out nx ny
                  have cj := HD9.out.cell (i := idx m (nx, ny)) (by rw [HG9.out.len]; exact j1)
                  have ci := HD9.out.cell (i := i) (by rw [HG9.out.len]; exact HIA2.out)
                  have lj := HG9.out.lo _ j1
                  have li := HG9.out.lo i HIA2.out
                  have HSP := hid (fun ho hlt => HST'.out e HG9.out HZ9.out i HIA2.out (nx, ny) hmem ho hlt)
                  have HED : Hid (b = false → e = d) := hid fun h => (HQ9.out h).1
                  have HQD : Hid (b = false → d.getD i 0 = e.getD i 0 ∧ d.getD (idx m (nx, ny)) 0 = e.getD (idx m (nx, ny)) 0) := hid fun h => by rw [(HQ9.out h).1]; exact ⟨rfl, rfl⟩
                  have HQS : Hid ((opB m bl gl (nx, ny) = true → e.getD i 0 ≤ e.getD (idx m (nx, ny)) 0 + 1) → b = false → e = d ∧ (∀ i', i' < i → ∀ x ∈ nr m (cellOf m i'), opB m bl gl x = true → d.getD i' 0 ≤ d.getD (idx m x) 0 + 1) ∧ ∀ k', k' < k + 1 → opB m bl gl (l.getD k' (0, 0)) = true → d.getD i 0 ≤ d.getD (idx m (l.getD k' (0, 0))) 0 + 1) := hid fun hh hb => by
                    obtain ⟨h1, h2, h3⟩ := HQ9.out hb
                    obtain ⟨g1, g2⟩ := HQD.out hb
                    refine ⟨h1, h2, fun k' hk' ho' => ?_⟩
                    rcases Nat.lt_or_ge k' k with hlt | hge
                    · exact h3 k' hlt ho'
                    · obtain rfl : k' = k := by omega
                      rw [← HNN.out 0] at ho' ⊢
                      rw [g1, g2]
                      exact hh ho'
                  clear hnn hmem hinn hcell HQ9 HQ9' HQD hl hkl
                  generalize idx m (nx, ny) = j at *
                  generalize opB m bl gl (nx, ny) = ov at *
                  generalize pass m bl (nx, ny) = pv at *
                  generalize e.getD j 0 = dj at *
                  generalize e.getD i 0 = di at *
                  have hwm : IntKind.i64.wrap (ny * mW) = ny * mW := by rw [IntKind.wrap_i64]; omega
                  have hwa : IntKind.i64.wrap (ny * mW + nx) = (j : Int) := by rw [j2, IntKind.wrap_i64]; have := HT4.out; omega
                  have hwm' : wrap64 (ny * mW) = ny * mW := by unfold wrap64; omega
                  have hwa' : wrap64 (ny * mW + nx) = (j : Int) := by rw [j2]; unfold wrap64; have := HT4.out; omega
                  have hwd : IntKind.i64.wrap (dj + 1) = dj + 1 := by rw [IntKind.wrap_i64]; omega
                  have hwd' : wrap64 (dj + 1) = dj + 1 := by unfold wrap64; omega
                  have hj0 : (0 : Int) ≤ (j : Int) := by omega
                  have hja : (j : Int) < (a : Int) := by omega
                  have hi0 : (0 : Int) ≤ (i : Int) := by omega
                  have hia : (i : Int) < (a : Int) := by have := HIA2.out; omega
                  obtain ⟨m0, m1, -, -⟩ := HK.out _ (HBT.out _ HR9.out)
                  have HR10 := hid (fun n => hid (Below.drewN HR9.out n))
                  clear j1 j2 j3 j4
                  go_upto_region 18 with fail
                  go_still (by kernel_rfl)
                  clear hwm hwa hwm' hwa' m0 m1
                  rcases hsv : sameC nx ny gx gy with _ | _
                  case' false => rcases pv with _ | _
                  case' false.false =>
                    rw [hsv, Bool.or_self] at hopv
                    subst hopv
                    have HQS := hid (HQS.out (fun h => by cases h))
                    clear HSP
                    go_upto_region 19 with fail
                    go_quiet (fail)
                    go_wp2
                    go_roundw
                    case rel => exact ⟨k + 1, b, e, by first | (rw [HWK.out]; simp) | simp, rfl, HKL.out, HR10.out _, HD9, HON, HG9, HZ9, HQS, HU9⟩
                    case measure =>
                      have := HLN.out
                      have := HKL.out
                      first
                        | (rw [HWK.out]; simp [intOf]; omega)
                        | (simp [intOf]; omega)
                  all_goals
                    replace hopv : _ = true := hopv.trans (by rw [hsv]; rfl)
                    subst hopv
                    by_cases hlt : dj + 1 < di
                    · have hlt2 : decide (dj + 1 < di) = true := by simp; omega
                      obtain ⟨s1, s2, s3⟩ := HSP.out rfl hlt
                      have HG10 := hid s1
                      have HZ10 := hid s2
                      have HU10 : Hid (true = true → sumN (e.set i (dj + 1)) < sumN d) := hid fun _ => by
                        cases b with
                        | true => have := HU9.out rfl; omega
                        | false => rw [← HED.out rfl]; exact s3
                      have z0 := Blk.frozen HD9.out i
                      have hT := turn_one wr D i (.int .i64 (dj + 1))
                      have HDV : Hid (∀ n, Hid (IB ((wr.setCell ⟨D, i, none⟩ (.int .i64 (dj + 1))).drewN n) D (e.set i (dj + 1)))) := hid fun n => hid (HD9.out.set i (dj + 1))
                      have HRV : Hid (∀ n, Hid (Below D w1 ((wr.setCell ⟨D, i, none⟩ (.int .i64 (dj + 1))).drewN n))) := hid fun n => hid (Below.drewN (HR9.out.trans (hT.below (Nat.le_refl _))) n)
                      have HNV : Hid (∀ n, Hid (OwnC ((wr.setCell ⟨D, i, none⟩ (.int .i64 (dj + 1))).drewN n) P (.slice (some ⟨sb, so, none⟩) l.length capn) l)) := hid fun n => hid (OwnC.stay (HON.out.stay fun j hj => hT.block j (by have := (HON.out.block j hj).1; have := HWD.out; omega)) fun _ _ => rfl)
                      clear HSP hlt s1 s2 s3 hT
                      go_upto_region 19 with fail
                      go_quiet (fail)
                      go_wp2
                      go_roundw
                      case rel => exact ⟨k + 1, true, _, by first | (rw [HWK.out]; simp) | simp, rfl, HKL.out, HRV.out _, HDV.out _, HNV.out _, HG10, HZ10, hid (fun h => by cases h), HU10⟩
                      case measure =>
                        have := HLN.out
                        have := HKL.out
                        first
                          | (rw [HWK.out]; simp [intOf]; omega)
                          | (simp [intOf]; omega)
                    · have hlt' : (dj + 1 < di) = False := by simp; omega
                      have hlt2 : decide (dj + 1 < di) = false := by simp; omega
                      have HQS := hid (HQS.out (fun _ => by omega))
                      clear HSP hlt
                      go_upto_region 19 with fail
                      go_quiet (fail)
                      go_wp2
                      go_roundw
                      case rel => exact ⟨k + 1, b, e, by first | (rw [HWK.out]; simp) | simp, rfl, HKL.out, HR10.out _, HD9, HON, HG9, HZ9, HQS, HU9⟩
                      case measure =>
                        have := HLN.out
                        have := HKL.out
                        first
                          | (rw [HWK.out]; simp [intOf]; omega)
                          | (simp [intOf]; omega)
                · obtain rfl : k = l.length := by omega
                  have hl' : ((l.length : Int) < (l.length : Int)) = False := by simp
                  have HQN : Hid (b = false → e = d ∧ ∀ i', i' < i + 1 → ∀ x ∈ nr m (cellOf m i'), opB m bl gl x = true → d.getD i' 0 ≤ d.getD (idx m x) 0 + 1) := hid fun h => by
                    obtain ⟨h1, h2, h3⟩ := HQ9.out h
                    refine ⟨h1, fun i' hi' x' hx' ho' => ?_⟩
                    rcases Nat.lt_or_ge i' i with hlt | hge
                    · exact h2 i' hlt x' hx' ho'
                    · obtain rfl : i' = i := by omega
                      obtain ⟨k', hk', rfl⟩ := HALL.out x' hx'
                      exact h3 k' hk' ho'
                  have HW1 : Hid (wrap64 ((i : Int) + 1) = (i : Int) + 1) := hid (by have := HIA2.out; have := HT4.out; unfold wrap64; omega)
                  clear hkl hl
                  go_wp2
                  go_roundw
                  case rel => exact ⟨i + 1, b, e, by first | (rw [HW1.out]; simp) | simp, rfl, HIA2.out, HR9, HD9, HG9, HZ9, HQN, HU9⟩
                  case measure =>
                    have := HIA2.out
                    first
                      | (rw [HW1.out]; simp [intOf]; omega)
                      | (simp [intOf]; omega)
            · obtain rfl : i = a := by omega
              have hl' : ((i : Int) < (i : Int)) = False := by simp
              clear hl hi
              go_wp2
              go_roundw
              case rel => exact ⟨b, e, rfl, HR7, HD7, HG7, HZ7, hid fun hb => by
                obtain ⟨rfl, h⟩ := HQ7.out hb
                exact h⟩
              case measure =>
                rw [HMS.out, HD7.out.sum]
                cases b with
                | true => have := HU7.out rfl; simp only; omega
                | false =>
                  obtain ⟨h, -⟩ := HQ7.out rfl
                  rw [h]
                  simp only; omega
        | false =>
            have HFIN := hid (HDN.out d HG6.out HZ6.out (HS6.out rfl))
            have HLD : Hid (d.length = a) := hid HG6.out.len
            have HE := HBE.out _ (HBT.out _ HR6.out)
            rw [HBB.out 0] at HE
            have HDs : Hid (w.heap.size ≤ D) := hid (by have := HDE.out 0; have := HB1.out.size; have := HSB.out; have := HBB.out 0; omega)
            go_wp2
            go_ret
            first
              | exact ⟨D, d, rfl, HDs.out, HE, HD6.out, HLD.out, HFIN.out⟩
              | exact ⟨D, rfl, HDs.out, HE, d, HD6.out, HLD.out, HFIN.out⟩
end Go.Proofs.Ytemcbonmlmobkaa
