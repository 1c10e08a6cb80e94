/- Which cell comes next, as the program reckons it: lead. -/
import Derived.Test.YtgkjlfpkhpnpfaaGmeas
namespace Go.Proofs.Ytgkjlfpkhpnpfaa
open Go.RowKit
def cv (c : Cl) : Value := .agg #[.int .i64 c.1, .int .i64 c.2]
def hitB (m : Mp) (bl gs : List Cl) (f : Cl → Option Nat) (d : Nat) (n : Cl) : Bool := (match f n with | none => false | some e => e + 1 == d) && opn m bl gs n
theorem nextV_find {m : Mp} {bl gs : List Cl} {f : Cl → Option Nat} {c : Cl} {d : Nat} (h : f c = some d) : nextV m bl gs f c = (nr m c).find? (hitB m bl gs f d) := by
  unfold nextV
  rw [h]
  cases d with
  | zero =>
    symm
    rw [List.find?_eq_none]
    intro x _
    unfold hitB
    cases f x <;> simp
  | succ d =>
    show (nr m c).find? (fun n => f n == some d && opn m bl gs n) = _
    congr 1
    funext n
    unfold hitB
    cases f n with
    | none => simp
    | some e => by_cases h : e = d <;> simp [h]
/-- What lead has laid, when left is still to come. -/
def ptF (m : Mp) (bl gs : List Cl) (f : Cl → Option Nat) (left : Cl → Bool) : Cl → Option Value := fun c => if left c then none else (nextV m bl gs f c).map cv
theorem ptF_begin (m : Mp) (bl gs : List Cl) (f : Cl → Option Nat) : ptF m bl gs f (fun c => (valF f c).isSome) = fun _ => none := by
  funext c
  unfold ptF nextV
  simp only [valF_some]
  cases f c <;> simp
theorem ptF_hit {m : Mp} {bl gs : List Cl} {f : Cl → Option Nat} {left : Cl → Bool} {c n : Cl} (h : nextV m bl gs f c = some n) : putF (ptF m bl gs f left) c (cv n) = ptF m bl gs f (fun z => left z && !(z == c)) := by
  funext z
  unfold putF ptF
  by_cases hz : z = c
  · subst hz
    simp [h]
  · have : (z == c) = false := by simpa using hz
    simp [hz]
theorem ptF_miss {m : Mp} {bl gs : List Cl} {f : Cl → Option Nat} {left : Cl → Bool} {c : Cl} (h : nextV m bl gs f c = none) (hl : left c = true) : ptF m bl gs f left = ptF m bl gs f (fun z => left z && !(z == c)) := by
  funext z
  unfold ptF
  by_cases hz : z = c
  · subst hz
    simp [h, hl]
  · have : (z == c) = false := by simpa using hz
    simp [hz]
theorem find_hit {p : Cl → Bool} {l : List Cl} {k : Nat} (hk : k < l.length) (hn : ∀ i, i < k → p (l.getD i (0, 0)) = false) (h : p (l.getD k (0, 0)) = true) : l.find? p = some (l.getD k (0, 0)) := by
  induction l generalizing k with
  | nil => simp at hk
  | cons x r ih =>
    cases k with
    | zero => rw [List.find?_cons_of_pos (by simpa using h)]; rfl
    | succ k =>
      have h0 : p x = false := hn 0 (by omega)
      rw [List.find?_cons_of_neg (by simp [h0])]
      exact ih (by simpa using hk) (fun i hi => hn (i + 1) (by omega)) h
theorem find_miss {p : Cl → Bool} {l : List Cl} (hn : ∀ i, i < l.length → p (l.getD i (0, 0)) = false) : l.find? p = none := by
  rw [List.find?_eq_none]
  intro x hx
  obtain ⟨i, hi, rfl⟩ := List.getElem_of_mem hx
  have := hn i hi
  rw [List.getD_eq_getElem?_getD, List.getElem?_eq_getElem hi, Option.getD_some] at this
  rw [this]; simp
def OutL (w : World) (m : Mp) (bl gs : List Cl) (f : Cl → Option Nat) (e : Ending) (w' : World) : Prop := ∃ g, e = .returned (.map (some g)) ∧ w.heap.size ≤ g ∧ FMap w' g (fun c => (nextV m bl gs f c).map cv) ∧ Below w.heap.size w w'
set_option maxRecDepth 4000 in
set_option maxHeartbeats 4000000 in
theorem lead_any (m : Mp) (v : Value) (bl gs : List Cl) (f : Cl → Option Nat) (b9 bF : Nat) (w : World) (hm : MapAt w v m) (hs : FMap w b9 (shutG m bl gs)) (hF : FMap w bF (valF f)) (hf : formed m = true) (h4 : ∀ c n, f c = some n → n ≤ 400) :
    Calls Try.prog 28 #[v, .map (some b9), .map (some bF)] w fun e w' => OutL w m bl gs f e w' := by
  have hb9 := hs.lt
  have hbF := hF.lt
  have h40 : Hid (∀ x y W, Below w.heap.size w W → Calls Try.prog 40 #[v, C x y] W fun e w' => OutOwn W (near m x y) e w') := fun x y W h => near_own m v x y W (hm.below h)
  have HSH : Hid (∀ c, inn m c = true → (shutG m bl gs c).isSome = !opn m bl gs c) := fun c hc => shutG_is hf hc
  have HSG : Hid (∀ c, (shutG m bl gs c).getD (.agg #[]) = .agg #[]) := fun c => shutG_get m bl gs c
  have HSB : Hid (∀ W, Below w.heap.size w W → FMap W b9 (shutG m bl gs)) := fun W h => hs.below h hb9
  have HFB : Hid (∀ W, Below w.heap.size w W → FMap W bF (valF f)) := fun W h => hF.below h hbF
  have HNI : Hid (∀ c x, x ∈ nr m c → inn m x = true) := fun c x h => nr_in hf h
  have HNL : Hid (∀ c, (nr m c).length ≤ 4) := fun c => by
    unfold nr near
    rw [if_pos hf]
    exact Nat.le_trans (List.length_filter_le _ _) (by simp [nbs])
  have HNV : Hid (∀ x y d, f (x, y) = some d → nextV m bl gs f (x, y) = (near m x y).find? (hitB m bl gs f d)) := fun x y d h => nextV_find h
  have HP0 := hid (ptF_begin m bl gs f)
  have HP1 : Hid (∀ left c n, nextV m bl gs f c = some n → putF (ptF m bl gs f left) c (cv n) = ptF m bl gs f (fun z => left z && !(z == c))) := fun left c n h => ptF_hit h
  have HP2 : Hid (∀ left c, nextV m bl gs f c = none → left c = true → ptF m bl gs f left = ptF m bl gs f (fun z => left z && !(z == c))) := fun left c h hl => ptF_miss h hl
  have HP3 : Hid (ptF m bl gs f (fun _ => false) = fun c => (nextV m bl gs f c).map cv) := hid (by funext c; simp [ptF])
  have HHB : Hid (∀ d n, hitB m bl gs f d n = ((match f n with | none => false | some e => e + 1 == d) && opn m bl gs n)) := fun d n => rfl
  have H4 := hid h4
  obtain ⟨SF, hSF⟩ : ∃ SF, SF = shutG m bl gs := ⟨_, rfl⟩
  rw [← hSF] at HSH HSG HSB
  obtain ⟨PT, hPT⟩ : ∃ PT, PT = ptF m bl gs f := ⟨_, rfl⟩
  rw [← hPT] at HP0 HP1 HP2 HP3
  obtain ⟨HT, hHT⟩ : ∃ HT, HT = hitB m bl gs f := ⟨_, rfl⟩
  rw [← hHT] at HNV HHB
  obtain ⟨OP, hOP⟩ : ∃ OP, OP = opn m bl gs := ⟨_, rfl⟩
  rw [← hOP] at HHB HSH
  unfold OutL
  obtain ⟨NV, hNV⟩ : ∃ NV, NV = nextV m bl gs f := ⟨_, rfl⟩
  rw [← hNV] at HNV HP1 HP2 HP3 ⊢
  rw [← HP3.out]
  obtain ⟨p, c, q, d, rfl, -, -⟩ := hm
  clear hSF hPT hHT hOP hNV hf hs hF h4
  obtain ⟨S1, hS1⟩ : ∃ z, z = Value.slice p m.ts.length c := ⟨_, rfl⟩
  obtain ⟨S2, hS2⟩ : ∃ z, z = Value.slice q m.os.length d := ⟨_, rfl⟩
  obtain ⟨mW, hmW⟩ : ∃ z, z = m.W := ⟨_, rfl⟩
  obtain ⟨mH, hmH⟩ : ∃ z, z = m.H := ⟨_, rfl⟩
  rw [← hS1, ← hS2, ← hmW, ← hmH] at h40 ⊢
  clear hS1 hS2 hmW hmH
  unfold C at *
  have hmm := @run_makeMap Try.prog
  go_enter Try.func28, Try.ntmps28
  obtain ⟨V, hV⟩ : ∃ V, V = (w.alloc (.cells #[Value.int .i64 mW, .int .i64 mH, S1, S2] 24)).alloc (.map #[] 0) := ⟨_, rfl⟩
  obtain ⟨B, hBe⟩ : ∃ B, B = w.heap.size := ⟨_, rfl⟩
  have hsz : V.heap.size = B + 2 := by rw [hV, hBe]; simp
  have HBE : Hid (∀ w', Below (B + 1) V w' → Below B w w') := by
    intro w' h
    have h1 : Below w.heap.size w V := by rw [hV]; exact ((Below.refl _ _).alloc (Nat.le_refl _) _).alloc (by simp) _
    rw [← hBe] at h1
    exact h1.trans (h.mono (by omega))
  have hbk : Blk V B [Value.int .i64 mW, .int .i64 mH, S1, S2] 24 := by rw [hV, hBe]; exact (Blk.new _ _ _).alloc _
  have HK : Hid (∀ w', Below (B + 1) V w' → w'.cell? ⟨B, 0, none⟩ = some (.int .i64 mW) ∧ w'.cell? ⟨B, 1, none⟩ = some (.int .i64 mH) ∧ w'.cell? ⟨B, 2, none⟩ = some S1 ∧ w'.cell? ⟨B, 3, none⟩ = some S2) := fun w' h => by
    have := hbk.below h (by omega)
    exact ⟨this.cell 0, this.cell 1, this.cell 2, this.cell 3⟩
  have HF0 : Hid (FMap V (B + 1) (PT fun c => (valF f c).isSome)) := by
    have := FMap.new (w.alloc (.cells #[Value.int .i64 mW, .int .i64 mH, S1, S2] 24))
    rw [← hV] at this
    simp only [World.size_alloc] at this
    rw [← hBe] at this
    rw [HP0.out]
    exact this
  have HB0 := hid (Below.refl (B + 1) V)
  rw [← hBe] at h40 HSB HFB hb9 hbF
  have HVF : Hid (FMap V bF (valF f)) := hid (HFB.out V (HBE.out V HB0.out))
  have HBe := hid (fun (_ : Nat) => hBe)
  go_upto_region 2 with fail
  rw [← hV, ← hBe]
  clear hV hBe hbk hmm
  obtain ⟨D, hD⟩ : ∃ D, D = B + 1 := ⟨_, rfl⟩
  have HDE := hid (fun (_ : Nat) => hD)
  rw [← hD] at HBE HK HF0 HB0 ⊢
  rw [show B + 2 = D + 1 by omega] at hsz
  have hBD : b9 < D ∧ bF < D ∧ B ≤ D := by omega
  clear hD HP0
  go_upto_region 3 with (at_range; (with_reducible refine wpL_range 3 Try.underlying54 bF (valF f) ?_ HVF.out ?_); (rfl); (intro w3 hi3 hb3 hs3))
  go_frame
  obtain ⟨R, hR⟩ : ∃ R, R = V.heap.size := ⟨_, rfl⟩
  rw [← hR] at hi3 hb3 hs3 hsz ⊢
  have hDR : D < R := by omega
  have HF4 : Hid (FMap w3 D (PT fun c => (valF f c).isSome)) := HF0.out.below hb3 hDR
  have HI4 := hid hi3
  have HB4 : Hid (Below D V w3) := hid (hb3.mono (by omega))
  clear hi3 hb3 hs3 hR HB0 HF0 HVF hsz
  go_loopw [] (fun wr => ∃ left, Hid (Below D V wr) ∧ Hid (FIter wr bF R (valF f) left) ∧ Hid (FMap wr D (PT left))) (fun wr => wr.rangeLeft bF R)
  case atStart => exact ⟨_, HB4, HI4, HF4⟩
  case round =>
    clear HB4 HI4 HF4
    obtain ⟨left, HB5, HI5, HF5⟩ := hrel
    go_wp2_with (at_next; (with_reducible refine wpL_next bF R (valF f) left ?_ HI5.out ?_ ?_); (rfl))
    · intro hl
      have e : left = fun _ => false := funext hl
      subst e
      go_wp2
      go_ret
      rw [← HBe.out 0]
      exact ⟨D, rfl, by have := HDE.out 0; omega, HF5.out, HBE.out _ HB5.out⟩
    · intro x y z w6 hlx hsx hi6 hm6 ht6 hen
      obtain ⟨dv, hdv, rfl⟩ : ∃ dv : Nat, f (x, y) = some dv ∧ z = .int .i64 (dv : Int) := by
        unfold valF at hsx
        cases h : f (x, y) with
        | none => rw [h] at hsx; cases hsx
        | some n => rw [h] at hsx; cases hsx; exact ⟨n, rfl, rfl⟩
      have hd4 := H4.out _ _ hdv
      have HNX := hid (HNV.out x y dv hdv)
      have HMS := hid (fun h => HP2.out left (x, y) h hlx)
      clear hsx hdv
      have hRw : R < w6.heap.size := hi6.lt.2.1
      obtain ⟨U, hU⟩ : ∃ U, U = w6.alloc (.cells #[Value.int .i64 x, .int .i64 y] 37) := ⟨_, rfl⟩
      obtain ⟨g, hg⟩ : ∃ g, g = w6.heap.size := ⟨_, rfl⟩
      have HUB : Hid (Below g w6 U) := by rw [hU, hg]; exact (Below.refl _ _).alloc (Nat.le_refl _) _
      have HUG : Hid (Blk U g [.int .i64 x, .int .i64 y] 37) := by rw [hU, hg]; exact Blk.new _ _ _
      have HBU : Hid (Below D V U) := HB5.out.trans ((ht6.below (by omega)).trans (HUB.out.mono (by omega)))
      have HIU : Hid (FIter U bF R (valF f) fun q => left q && !(q == (x, y))) := hi6.below HUB.out (by omega) (by omega)
      have HFU : Hid (FMap U D (PT left)) := (HF5.out.keep (ht6.block D (by omega))).below HUB.out (by omega)
      have HMU : Hid (U.rangeLeft bF R < wr.rangeLeft bF R) := by
        rw [rangeLeft_keep (HUB.out.block bF (by omega)) (HUB.out.block R (by omega))]; exact hid hm6
      have HRG : Hid (R < g) := hid (by omega)
      clear ht6 hi6 hm6 HB5 HI5 HF5
      go_upto_region 5 with fail
      rw [← hU, ← hg]
      have g0 : U.cell? ⟨g, 0, none⟩ = some (.int .i64 x) := HUG.out.cell 0
      have g1 : U.cell? ⟨g, 1, none⟩ = some (.int .i64 y) := HUG.out.cell 1
      obtain ⟨a0, a1, a2, a3⟩ := HK.out _ HBU.out
      have HBWU := hid (HBE.out _ HBU.out)
      clear hU hg HUB hen hRw
      go_wp2_with fail
      refine Calls.mono (h40.out x y _ HBWU.out) ?_
      rintro e w3 ⟨vn, rfl, hon, hbn⟩
      obtain ⟨pn, capn, rfl⟩ := hon.form
      clear a0 a1 a2 a3 g0 g1 HBWU
      go_upto_region 6 with fail
      obtain ⟨l, hle⟩ : ∃ l, l = near m x y := ⟨_, rfl⟩
      rw [← hle] at hon HNX ⊢
      have HL4 : Hid (l.length ≤ 4) := by rw [hle]; exact hid (HNL.out (x, y))
      have hnr : ∀ x ∈ l, inn m x = true := by rw [hle]; exact fun q hq => HNI.out (x, y) q hq
      have HLI : Hid (∀ k, k < l.length → inn m (l.getD k (0, 0)) = true) := fun k hk => hnr _ (by
        rw [List.getD_eq_getElem?_getD, List.getElem?_eq_getElem hk, Option.getD_some]
        exact List.getElem_mem hk)
      obtain ⟨X, hX⟩ : ∃ X, X = U.heap.size := ⟨_, rfl⟩
      rw [← hX] at hon hbn
      have hgX : g < X := by rw [hX]; exact HUG.out.lt
      have hRG := HRG.out
      have HB3 : Hid (Below D V w3) := HBU.out.trans (hbn.mono (by omega))
      have HI3 : Hid (FIter w3 bF R (valF f) fun q => left q && !(q == (x, y))) := HIU.out.below hbn (by omega) (by omega)
      have HF3 : Hid (FMap w3 D (PT left)) := HFU.out.below hbn (by omega)
      have HG3 : Hid (Blk w3 g [.int .i64 x, .int .i64 y] 37) := HUG.out.below hbn hgX
      have HM3 : Hid (w3.rangeLeft bF R < wr.rangeLeft bF R) := by
        rw [rangeLeft_keep (hbn.block bF (by omega)) (hbn.block R (by omega))]; exact HMU
      have HOn := hid hon
      obtain ⟨P3, hP3⟩ : ∃ P3, P3 = w3.heap.size := ⟨_, rfl⟩
      have HP3W := hid (fun (_ : Nat) => hP3)
      have HX3 : Hid (X ≤ P3 ∧ g < X ∧ R < g) := hid ⟨by rw [hP3]; have := hbn.size; omega, hgX, hRG⟩
      have HI0 : Hid (∀ i, i < 0 → HT dv (l.getD i (0, 0)) = false) := fun i hi => by omega
      have HR0 : Hid (Below P3 w3 w3) := hid (Below.refl _ _)
      clear hon hbn hle hnr HBU HIU HFU HMU HUG HRG hgX hRG hX hP3
      go_loopw [28] (fun iv wr => ∃ k, iv = .int .i64 ((k : Nat) : Int) ∧ k ≤ l.length ∧ Hid (∀ i, i < k → HT dv (l.getD i (0, 0)) = false) ∧ Hid (Below P3 w3 wr)) (fun iv _ => 5 - (intOf iv).toNat)
      case atStart => exact ⟨0, rfl, by omega, HI0, HR0⟩
      case round =>
        clear HI0 HR0
        obtain ⟨k, rfl, hkl, HIk, HRk⟩ := hrel
        by_cases hl : k < l.length
        · have hl' : (k : Int) < (l.length : Int) := by omega
          have HKL := hid hl
          have hl4 := HL4.out
          have HWK : Hid (wrap64 ((k : Int) + 1) = (k : Int) + 1) := hid (wrap_small (by omega))
          obtain ⟨nb, no, rfl, d0, d1⟩ := (HOn.out.below (by rw [← HP3W.out 0]; exact HRk.out)).cells.at hl
          have HFA : Hid (HT dv (l.getD k (0, 0)) = true → l.find? (HT dv) = some (l.getD k (0, 0))) := fun h => find_hit hl HIk.out h
          have HIn : Hid (HT dv (l.getD k (0, 0)) = false → ∀ i, i < k + 1 → HT dv (l.getD i (0, 0)) = false) := fun h i hi => by
            rcases Nat.lt_or_ge i k with h1 | h1
            · exact HIk.out i h1
            · obtain rfl : i = k := by omega
              exact h
          have hni := HLI.out k hl
          generalize l.getD k (0, 0) = nn at *
          obtain ⟨z1, z2⟩ := nn
          simp only at d0 d1
          have hsx := HSH.out _ hni
          have hs1 : (SF (z1, z2)).getD (.agg #[]) = .agg #[] := HSG.out _
          obtain ⟨U2, hU⟩ : ∃ U2, U2 = wr.alloc (.cells #[Value.int .i64 z1, .int .i64 z2] 37) := ⟨_, rfl⟩
          obtain ⟨gg, hg⟩ : ∃ gg, gg = wr.heap.size := ⟨_, rfl⟩
          have HUB : Hid (Below gg wr U2) := by rw [hU, hg]; exact (Below.refl _ _).alloc (Nat.le_refl _) _
          have HUG : Hid (Blk U2 gg [.int .i64 z1, .int .i64 z2] 37) := by rw [hU, hg]; exact Blk.new _ _ _
          have HGP : Hid (P3 ≤ gg) := hid (by rw [hg, HP3W.out 0]; exact HRk.out.size)
          have HRU := hid (HRk.out.trans (HUB.out.mono HGP.out))
          have hgU : gg < U2.heap.size := HUG.out.lt
          have hx3 := HX3.out
          have hgp := HGP.out
          have HFF : Hid (FMap U2 bF (valF f)) := HI3.out.map.below HRU.out (by omega)
          have HFS : Hid (FMap U2 b9 SF) := hid (HSB.out _ (HBE.out _ (HB3.out.trans (HRU.out.mono (by omega)))))
          clear hl hkl hl4 hni
          go_upto_region 8 with fail
          rw [← hU, ← hg]
          have g0 : U2.cell? ⟨gg, 0, none⟩ = some (.int .i64 z1) := HUG.out.cell 0
          have g1 : U2.cell? ⟨gg, 1, none⟩ = some (.int .i64 z2) := HUG.out.cell 1
          clear hU hg HUB d0 d1 hl'
          obtain ⟨Y, hY⟩ : ∃ Y, Y = U2.alloc (.cells #[] 70) := ⟨_, rfl⟩
          have HUY : Hid (Below U2.heap.size U2 Y) := by rw [hY]; exact (Below.refl _ _).alloc (Nat.le_refl _) _
          have HRY : Hid (Below P3 w3 Y) := hid (HRU.out.trans (HUY.out.mono (by omega)))
          have HGY : Hid (Blk Y gg [.int .i64 z1, .int .i64 z2] 37) := HUG.out.below HUY.out hgU
          obtain ⟨fz, hfz⟩ : ∃ fz, fz = f (z1, z2) := ⟨_, rfl⟩
          have HFZ := hid (fun (_ : Nat) => hfz)
          have HTZ := HHB.out dv (z1, z2)
          rw [← hfz] at HTZ
          have hl1 : (valF f (z1, z2)).getD (.int .i64 0) = .int .i64 (fz.getD 0 : Nat) := by rw [valF_get, hfz]
          have hl2 : (valF f (z1, z2)).isSome = fz.isSome := by rw [valF_some, hfz]
          clear hfz
          go_upto_region 10 with (at_lookup; first
            | ((with_reducible refine wpL_look2 3 Try.underlying54 (.int .i64 0) zero3 bF (valF f) z1 z2 ?_ ?_ HFF.out ?_); (rfl); (rfl); (rw [hl1, hl2]))
            | ((with_reducible refine wpL_look2 70 Try.underlying51 (.agg #[]) zero61 b9 SF z1 z2 ?_ ?_ HFS.out ?_); (rfl); (rfl); (rw [hs1, hsx])))
          rw [← hY]
          clear hY HUY HFF HFS HUG HRU g0 g1 hs1 hsx hl1 hl2 hgU hgp
          rw [HTZ] at HIn HFA
          cases fz with
          | none =>
            have HI2 := hid (HIn.out rfl)
            clear HIn HFA HTZ
            go_wp2
            go_roundw
            case rel => exact ⟨k + 1, by rw [HWK.out]; simp, HKL.out, HI2, HRY⟩
            case measure =>
              have := HL4.out
              have := HKL.out
              rw [HWK.out]
              simp [intOf]; omega
          | some e =>
            simp only [Option.isSome_some, Option.getD_some]
            cases hOP : OP (z1, z2) with
            | false =>
              have HI2 := hid (HIn.out (by rw [hOP, Bool.and_false]))
              clear HIn HFA HTZ hOP
              cases heq : ((e : Int) == (dv : Int) - 1) with
              | false =>
                go_wp2
                go_roundw
                case rel => exact ⟨k + 1, by rw [HWK.out]; simp, HKL.out, HI2, HRY⟩
                case measure =>
                  have := HL4.out
                  have := HKL.out
                  rw [HWK.out]
                  simp [intOf]; omega
              | true =>
                go_wp2
                go_roundw
                case rel => exact ⟨k + 1, by rw [HWK.out]; simp, HKL.out, HI2, HRY⟩
                case measure =>
                  have := HL4.out
                  have := HKL.out
                  rw [HWK.out]
                  simp [intOf]; omega
            | true =>
              cases heq : ((e : Int) == (dv : Int) - 1) with
              | false =>
                have HI2 := hid (HIn.out (by
                  rw [beq_eq_false_iff_ne] at heq
                  rw [hOP, Bool.and_true, beq_eq_false_iff_ne]
                  omega))
                clear HIn HFA HTZ hOP
                go_wp2
                go_roundw
                case rel => exact ⟨k + 1, by rw [HWK.out]; simp, HKL.out, HI2, HRY⟩
                case measure =>
                  have := HL4.out
                  have := HKL.out
                  rw [HWK.out]
                  simp [intOf]; omega
              | true =>
                have HN2 : Hid (NV (x, y) = some (z1, z2)) := by
                  rw [beq_iff_eq] at heq
                  rw [HNX.out]
                  exact hid (HFA.out (by rw [hOP, Bool.and_true, beq_iff_eq]; omega))
                have HPT := hid (HP1.out left (x, y) (z1, z2) HN2.out)
                unfold cv at HPT
                have HGc : Hid (Blk Y g [.int .i64 x, .int .i64 y] 37) := HG3.out.below HRY.out (by omega)
                have HBY : Hid (Below D V Y) := HB3.out.trans (HRY.out.mono (by omega))
                have HIY : Hid (FIter Y bF R (valF f) fun q => left q && !(q == (x, y))) := HI3.out.below HRY.out (by omega) (by omega)
                have HFY : Hid (FMap Y D (PT left)) := HF3.out.below HRY.out (by omega)
                have HMY := hid (rangeLeft_keep (HRY.out.block bF (by omega)) (HRY.out.block R (by omega)))
                have g2 : Y.cell? ⟨gg, 0, none⟩ = some (.int .i64 z1) := HGY.out.cell 0
                have g3 : Y.cell? ⟨gg, 1, none⟩ = some (.int .i64 z2) := HGY.out.cell 1
                have g4 : Y.cell? ⟨g, 0, none⟩ = some (.int .i64 x) := HGc.out.cell 0
                have g5 : Y.cell? ⟨g, 1, none⟩ = some (.int .i64 y) := HGc.out.cell 1
                have HBB := hid hBD
                have HDRR := hid hDR
                clear HIn HFA HTZ hOP hx3
                go_wp2_with (at_mapUpdate; (with_reducible refine wpL_upd 37 Try.underlying56 D (PT left) x y (.agg #[.int .i64 z1, .int .i64 z2]) ?_ ?_ ?_ HFY.out ?_); (rfl); (rfl); (rfl); (intro w7 hf7 ht7); (rw [HPT.out] at hf7))
                go_roundw
                case rel =>
                  exact ⟨hid (HBY.out.trans (ht7.below (Nat.le_refl _))), _, hid (HIY.out.keep (ht7.block bF (by have := HBB.out; omega)) (ht7.block R (by have := HDRR.out; omega))), hid hf7⟩
                case measure =>
                  rw [rangeLeft_keep (ht7.block bF (by have := HBB.out; omega)) (ht7.block R (by have := HDRR.out; omega)), HMY.out]
                  exact HM3.out
        · obtain rfl : k = l.length := by omega
          have hl' : ((l.length : Int) < (l.length : Int)) = False := by simp
          have HNO : Hid (PT left = PT fun z => left z && !(z == (x, y))) := HMS.out (by rw [HNX.out]; exact find_miss HIk.out)
          have hx3 := HX3.out
          have HBL : Hid (Below D V wr) := HB3.out.trans (HRk.out.mono (by omega))
          have HIL : Hid (FIter wr bF R (valF f) fun q => left q && !(q == (x, y))) := HI3.out.below HRk.out (by omega) (by omega)
          have HFL : Hid (FMap wr D (PT left)) := HF3.out.below HRk.out (by omega)
          rw [HNO.out] at HFL
          have HML := hid (rangeLeft_keep (HRk.out.block bF (by omega)) (HRk.out.block R (by omega)))
          clear hkl hl
          go_wp2
          go_roundw
          case rel => exact ⟨_, HBL, HIL, HFL⟩
          case measure => rw [HML.out]; exact HM3.out
end Go.Proofs.Ytgkjlfpkhpnpfaa
