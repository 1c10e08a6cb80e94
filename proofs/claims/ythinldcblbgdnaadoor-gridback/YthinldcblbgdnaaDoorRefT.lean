/- The reference's Text 13. -/
import Derived.Test.YthinldcblbgdnaaDoorSlab
import Derived.Test.YthinldcblbgdnaaDoorRefF
import Derived.Test.YthinldcblbgdnaaDoorRead
import Derived.Laws.BytesArg
namespace Go.Proofs.YthinldcblbgdnaaDoor
open Go.RowKit
/-- A byte in its cell. -/
def encU (z : Int) : List Value := [.int .u8 z]
theorem layU : Lay encU 1 := ⟨by omega, fun _ => rfl, fun x v hv => by simp [encU] at hv; subst hv; rfl⟩
theorem info5 : (Tryd.prog.info? 5).map (fun i => (i.zero, i.size, i.bytes)) = some (some (.int .u8 0), 1, 1) := by kernel_rfl
/-- The sign of a tile and an amount; whether there is one. -/
def sgnB (t o : Int) : Int := if t = 1 then 35 else if 0 < o then 48 + o / 10 else if t = 2 then 36 else 46
def okSign (o : Int) : Bool := decide (o % 10 = 0) && decide (o ≤ 90)
def sgAt (m : Mp) (i : Nat) : Int := sgnB (m.ts.getD i 0) (m.os.getD i 0)
/-- The text of the first i cells. -/
def txtTo (m : Mp) : Nat → List Int
  | 0 => []
  | i + 1 => txtTo m i ++ [sgAt m i] ++ (if i % m.W.toNat + 1 = m.W.toNat then [10] else [])
def okTo (m : Mp) : Nat → Bool
  | 0 => true
  | i + 1 => okTo m i && okSign (m.os.getD i 0)
def told (m : Mp) : Bool := formed m && okTo m m.ts.length
def textE (m : Mp) : Int := if told m then 0 else 4
def textS (m : Mp) : ByteArray := if told m then strOfNums (txtTo m m.ts.length) else ⟨#[]⟩
def OutText (w : World) (m : Mp) (e : Ending) (w' : World) : Prop := e = .returned (.tuple #[.string (textS m), .int .i64 (textE m)]) ∧ Below w.heap.size w w'
theorem tile_at {m : Mp} (h : formed m = true) {i : Nat} (hi : i < m.ts.length) : isTile (m.ts.getD i 0) (m.os.getD i 0) = true := by
  have h5 := (formed_of h).2.2.2.2
  cases ht : isTile (m.ts.getD i 0) (m.os.getD i 0)
  · rw [tilesTo_false ht _ hi] at h5; cases h5
  · rfl
theorem okTo_false {m : Mp} {i : Nat} (h : okSign (m.os.getD i 0) = false) : ∀ n, i < n → okTo m n = false
  | 0, hn => by omega
  | n + 1, hn => by
    rcases Nat.lt_or_ge i n with h1 | h1
    · rw [okTo, okTo_false h n h1, Bool.false_and]
    · obtain rfl : i = n := by omega
      rw [okTo, h, Bool.and_false]
theorem txtTo_len (m : Mp) : ∀ i, (txtTo m i).length ≤ 2 * i
  | 0 => by simp [txtTo]
  | i + 1 => by
    have := txtTo_len m i
    unfold txtTo
    split <;> simp <;> omega
theorem OwnR.string {w : World} {base : Nat} {p : Option Addr} {n cap : Nat} {xs : List Int} (h : OwnR encU 5 1 w base (.slice p n cap) xs) : (convert 48 9 (.slice p n cap)).run Tryd.prog w = .ok (.string (strOfNums xs)) w := by
  obtain ⟨p', cap', he, hc, hcell⟩ := h.row layU
  simp only [Value.slice.injEq] at he
  obtain ⟨rfl, rfl, rfl⟩ := he
  by_cases hn : xs = []
  · subst hn
    rcases p with _ | ⟨b, o, s⟩
    · exact run_convert_bytes_nil w 48 5 Tryd.underlying48 Tryd.underlying5 _ _ 9 Tryd.underlying9
    · obtain ⟨_, ⟨e, _⟩ | ⟨g, cap', cur, e, _⟩⟩ := h
      · cases e
      · simp only [Value.slice.injEq, Option.some.injEq, Addr.mk.injEq] at e
        obtain ⟨⟨rfl, rfl, rfl⟩, -, -⟩ := e
        exact run_convert_bytes_arg w 48 5 Tryd.underlying48 Tryd.underlying5 b 0 0 cap [] rfl (fun i hi => absurd hi (Nat.not_lt_zero _)) 9 Tryd.underlying9
  · obtain ⟨sb, so, rfl, hcl⟩ := hcell hn
    refine run_convert_bytes_arg w 48 5 Tryd.underlying48 Tryd.underlying5 sb so xs.length cap xs rfl (fun i hi => ?_) 9 Tryd.underlying9
    have := hcl i hi 0 _ rfl
    rw [Nat.mul_one, Nat.add_zero] at this
    rw [this, List.getD_eq_getElem?_getD, List.getElem?_eq_getElem hi]; rfl
set_option maxRecDepth 20000 in
set_option maxHeartbeats 8000000 in
theorem refText_any (m : Mp) (v : Value) (w : World) (hm : MapAt w v m) : Calls Tryd.prog 13 #[v] w fun e w' => OutText w m e w' := by
  have h16 : Hid (∀ W v, MapAt W v m → Calls Tryd.prog 16 #[v] W fun e w' => Out W (.bool (formed m)) e w') := fun W v h => refFormed_any m v W h
  have HM := hid (fun W (h : Below w.heap.size w W) => hm.below h)
  obtain ⟨p, c, q, d, rfl, hT, hO⟩ := hm
  have HT := hid (fun W (h : Below w.heap.size w W) => hT.below h)
  have HO := hid (fun W (h : Below w.heap.size w W) => hO.below h)
  have HE : Hid (textE m = if told m then 0 else 4) := rfl
  have HS : Hid (textS m = if told m then strOfNums (txtTo m m.ts.length) else ⟨#[]⟩) := rfl
  have HTD : Hid (told m = (formed m && okTo m m.ts.length)) := rfl
  have HF : Hid (formed m = true → (4 ≤ m.W ∧ m.W ≤ 20) ∧ m.os.length = m.ts.length ∧ m.ts.length ≤ 400 ∧ ∀ i, i < m.ts.length → isTile (m.ts.getD i 0) (m.os.getD i 0) = true) := fun h => by
    obtain ⟨h1, h2, h3, h4, -⟩ := formed_of h
    have := prod_bound h1 h2
    exact ⟨h1, by omega, by omega, fun i hi => tile_at h hi⟩
  have HTX := hid (fun i => txtTo_len m i)
  have HTS : Hid (∀ i, txtTo m (i + 1) = txtTo m i ++ [sgAt m i] ++ (if i % m.W.toNat + 1 = m.W.toNat then [10] else [])) := fun i => rfl
  have HOS : Hid (∀ i, okTo m (i + 1) = (okTo m i && okSign (m.os.getD i 0))) := fun i => rfl
  have HOF : Hid (∀ i, okSign (m.os.getD i 0) = false → i < m.ts.length → okTo m m.ts.length = false) := fun i h hi => okTo_false h _ hi
  have HSG : Hid (∀ i, sgAt m i = sgnB (m.ts.getD i 0) (m.os.getD i 0)) := fun i => rfl
  have HT0 : Hid (txtTo m 0 = [] ∧ okTo m 0 = true) := ⟨rfl, rfl⟩
  unfold OutText
  generalize textE m = E at *
  generalize textS m = S at *
  generalize told m = TD at *
  obtain ⟨V, hV⟩ : ∃ V, V = w.alloc (.cells #[Value.int .i64 m.W, .int .i64 m.H, .slice p m.ts.length c, .slice q m.os.length d] 24) := ⟨_, rfl⟩
  obtain ⟨g, hg⟩ : ∃ g, g = w.heap.size := ⟨_, rfl⟩
  have HB : Hid (Below w.heap.size w V) := by rw [hV]; exact hid ((Below.refl _ _).alloc (Nat.le_refl _) _)
  have HA : Hid (Blk V g [I m.W, I m.H, .slice p m.ts.length c, .slice q m.os.length d] 24) := by rw [hV, hg]; exact hid (Blk.new w [I m.W, I m.H, .slice p m.ts.length c, .slice q m.os.length d] 24)
  clear hT hO
  go_enter Tryd.func13, Tryd.ntmps13
  go_upto_region 1 with fail
  rw [← hV, ← hg]
  clear hV hg
  have a0 : V.cell? ⟨g, 0, none⟩ = some (.int .i64 m.W) := HA.out.cell 0
  have a1 : V.cell? ⟨g, 1, none⟩ = some (.int .i64 m.H) := HA.out.cell 1
  have a2 : V.cell? ⟨g, 2, none⟩ = some (.slice p m.ts.length c) := HA.out.cell 2
  have a3 : V.cell? ⟨g, 3, none⟩ = some (.slice q m.os.length d) := HA.out.cell 3
  have H16 := hid (h16.out V _ (HM.out V HB.out))
  unfold Out at H16
  obtain ⟨W, H, ts, os⟩ := m
  simp only at *
  generalize ts.length = N at *
  generalize os.length = N2 at *
  generalize formed ⟨W, H, ts, os⟩ = F at *
  go_wp2_with fail
  refine Calls.mono H16.out ?_
  rintro e w1 ⟨rfl, hb1⟩
  have HB1 := hid (HB.out.trans (hb1.mono HB.out.size))
  have HA1 := hid (HA.out.below hb1 HA.out.lt)
  clear hb1 a0 a1 a2 a3 HB HA H16 h16 HM
  rcases F with _ | _
  · obtain rfl : TD = false := by have := HTD.out; simpa using this
    obtain rfl : E = 4 := by have := HE.out; simpa using this
    obtain rfl : S = ⟨#[]⟩ := by have := HS.out; simpa using this
    go_wp2
    go_ret2
    exact ⟨rfl, HB1.out⟩
  · obtain ⟨hW, rfl, hN4, htile⟩ := HF.out rfl
    have HTL := hid htile
    obtain ⟨hW1, hW2⟩ := hW
    have HTD2 : Hid (TD = okTo ⟨W, H, ts, os⟩ N2) := by have := HTD.out; rw [Bool.true_and] at this; exact hid this
    clear HF HTD htile
    obtain ⟨K, rfl⟩ : ∃ K : Nat, W = (K : Int) := ⟨W.toNat, by omega⟩
    simp only [Int.toNat_natCast] at HTS
    obtain ⟨base, hbase⟩ : ∃ b, b = w1.heap.size := ⟨_, rfl⟩
    have HBS := hid hbase
    have hgb : g < base := by rw [hbase]; exact HA1.out.lt
    clear hbase
    go_wp2_with fail
    go_loopw [4, 5] (fun bv iv wr => ∃ (i L : Nat) (r : Option Addr) (cap : Nat), bv = .slice r L cap ∧ iv = .int .i64 (i : Int) ∧ i ≤ N2 ∧ Hid ((txtTo ⟨(K : Int), H, ts, os⟩ i).length = L) ∧ Hid (okTo ⟨(K : Int), H, ts, os⟩ i = true) ∧ Hid (OwnR encU 5 1 wr base (.slice r L cap) (txtTo ⟨(K : Int), H, ts, os⟩ i)) ∧ Hid (Below w1.heap.size w1 wr)) (fun _ iv _ => N2 - (intOf iv).toNat)
    case atStart => exact ⟨0, 0, none, 0, rfl, rfl, by omega, by rw [HT0.out.1]; exact hid rfl, HT0.out.2, by rw [HT0.out.1]; exact hid (OwnR.nil _ _ _ _ _), hid (Below.refl _ _)⟩
    case round =>
      obtain ⟨i, L, r, cap, rfl, rfl, hi, HL, HOK, HOW, HBW⟩ := hrel
      have hL2 : L ≤ 800 := by have h1 := HTX.out i; have h2 := HL.out; omega
      have HAW := hid (HA1.out.below HBW.out HA1.out.lt)
      have a0 : wr.cell? ⟨g, 0, none⟩ = some (.int .i64 (K : Int)) := HAW.out.cell 0
      have a2 : wr.cell? ⟨g, 2, none⟩ = some (.slice p N2 c) := HAW.out.cell 2
      have a3 : wr.cell? ⟨g, 3, none⟩ = some (.slice q N2 d) := HAW.out.cell 3
      by_cases hl : i < N2
      · have hl' : (i : Int) < (N2 : Int) := by omega
        have hl0 : (0 : Int) ≤ (i : Int) := by omega
        obtain ⟨sb, so, rfl, ht⟩ := (HT.out w1 HB1.out).pos i hl
        obtain ⟨ob, oo, rfl, ho⟩ := (HO.out w1 HB1.out).pos i hl
        have ht1 := ht i hl
        have ho1 := ho i hl
        have cT : wr.cell? ⟨sb, so + i, none⟩ = some (.int .i64 (ts.getD i 0)) := by rw [HBW.out.cell (p := ⟨sb, so + i, none⟩) (lt_of_cell ht1)]; exact ht1
        have cO : wr.cell? ⟨ob, oo + i, none⟩ = some (.int .i64 (os.getD i 0)) := by rw [HBW.out.cell (p := ⟨ob, oo + i, none⟩) (lt_of_cell ho1)]; exact ho1
        have htl := HTL.out i hl
        have HSI := hid (HSG.out i)
        have HTI := hid (HTS.out i)
        have HOI := hid (HOS.out i)
        have HOFI := hid (fun h => HOF.out i h hl)
        clear ht ho ht1 ho1
        generalize ts.getD i 0 = t at *
        generalize os.getD i 0 = o at *
        have htc : ((t = 0 ∨ t = 1) ∧ o = 0) ∨ (t = 2 ∧ 0 ≤ o ∧ o ≤ 1000) := by
          unfold isTile at htl
          simp only [Bool.or_eq_true, Bool.and_eq_true, beq_iff_eq, decide_eq_true_eq] at htl
          omega
        clear htl
        have ho0 : 0 ≤ o := by omega
        have hmod : o.tmod 10 = o % 10 := Int.tmod_eq_emod_of_nonneg ho0
        have hdiv : o.tdiv 10 = o / 10 := Int.tdiv_eq_ediv_of_nonneg ho0
        by_cases hm0 : o % 10 = 0
        · rw [hm0] at hmod
          by_cases h90 : o ≤ 90
          · have h90' : ((90 : Int) < o) = False := by simp; omega
            have hgood : okSign o = true := by unfold okSign; rw [decide_eq_true hm0, decide_eq_true h90]; rfl
            have HOK3 : Hid (okTo ⟨(K : Int), H, ts, os⟩ (i + 1) = true) := by rw [HOI.out, HOK.out, hgood]; exact hid rfl
            have hK0 : ((K : Int) == 0) = false := by simp; omega
            have hK1 : (K : Int) ≠ 0 := by omega
            have hrem : (i : Int).tmod (K : Int) = ((i % K : Nat) : Int) := by rw [Int.tmod_eq_emod_of_nonneg (by omega)]; rfl
            have hRK : i % K < K := Nat.mod_lt _ (by omega)
            rw [HSI.out] at HTI
            clear HSI HOI HOFI HOK hgood HTD2 HE HS
            obtain ⟨R, hR0⟩ : ∃ R, R = i % K := ⟨_, rfl⟩
            have HT1 : Hid (R + 1 = K → txtTo ⟨(K : Int), H, ts, os⟩ (i + 1) = txtTo ⟨(K : Int), H, ts, os⟩ i ++ [sgnB t o] ++ [10]) := hid (fun h => by rw [HTI.out, if_pos (by rw [← hR0]; exact h)])
            have HT2 : Hid (¬ R + 1 = K → txtTo ⟨(K : Int), H, ts, os⟩ (i + 1) = txtTo ⟨(K : Int), H, ts, os⟩ i ++ [sgnB t o]) := hid (fun h => by rw [HTI.out, if_neg (by rw [← hR0]; exact h), List.append_nil])
            rw [← hR0] at hrem hRK
            clear HTI hR0
            generalize txtTo ⟨(K : Int), H, ts, os⟩ i = X at *
            rcases (show (t = 1 ∧ o = 0) ∨ (t = 0 ∧ o = 0) ∨ (t = 2 ∧ o = 0) ∨ (t = 2 ∧ 0 < o) by omega) with ⟨rfl, rfl⟩ | ⟨rfl, rfl⟩ | ⟨rfl, rfl⟩ | ⟨rfl, hop⟩
            · rw [show sgnB 1 0 = 35 from rfl] at HT1 HT2
              clear htc hm0 hmod hdiv
              have hAL : Below wr.heap.size wr (wr.alloc (.cells #[.int .u8 (35)] 5)) := (Below.refl _ _).alloc (Nat.le_refl _) _
              have HOA := hid (HOW.out.below hAL)
              have HRA : Hid (RowAt encU 1 (wr.alloc (.cells #[.int .u8 (35)] 5)) (.slice (some ⟨wr.heap.size, 0, none⟩) 1 1) [(35 : Int)]) := hid (RowAt.one _ _ _ _ rfl)
              have HNA : Hid (X.length + [(35 : Int)].length = L + 1) := by rw [HL.out]; exact hid rfl
              have hba : base ≤ (wr.alloc (.cells #[.int .u8 (35)] 5)).heap.size := by have := HBW.out.size; have := HBS.out; simp; omega
              have HBA := hid hba
              have HWA := hid (HBW.out.alloc HBW.out.size (.cells #[.int .u8 (35)] 5))
              clear hAL hba
              go_upto_region 17 with (first
                | ((with_reducible refine wpL_appendR layU (S := 48) Tryd.underlying48 info5 rfl (by omega) base (.slice r L cap) (.slice (some ⟨wr.heap.size, 0, none⟩) 1 1) X [(35)] (L + 1) (by simp) HNA.out ?_ ?_ HOA.out HRA.out (by omega) HBA.out ?_); (rfl); (rfl); (intro r2 cap2 w5 ho5 hg5); (simp only [Act.put, List.setIfInBounds_toArray, List.set_cons_zero, List.set_cons_succ])))
              have HO5 := hid ho5
              have HB5 : Hid (Below w1.heap.size w1 w5) := by
                have h9 := hg5.belowR HOA.out HBA.out
                rw [HBS.out] at h9
                exact hid (HWA.out.trans h9)
              have a5 : w5.cell? ⟨g, 0, none⟩ = some (.int .i64 (K : Int)) := (HA1.out.below HB5.out HA1.out.lt).cell 0
              have HX5 : Hid ((X ++ [(35 : Int)]).length = L + 1) := by rw [List.length_append]; exact HNA
              clear ho5 hg5 HOA HRA HNA HBA HWA a0 a2 a3 cT cO HOW HL HBW HAW
              go_quiet (fail)
              have HO6 := hid (HO5.out.below (Below.drewN (Below.refl _ _) nq))
              have HB6 := hid (Below.drewN HB5.out nq)
              clear a5 HO5 HB5
              generalize w5.drewN nq = w6 at *
              by_cases hR : R + 1 = K
              · have hR' : ((R : Int) == (K : Int) - 1) = true := by simp; omega
                have HTI := hid (HT1.out hR)
                have HNX := HX5
                obtain ⟨X0, hX0⟩ : ∃ X0, X0 = X ++ [(35 : Int)] := ⟨_, rfl⟩
                rw [← hX0] at HO6 HX5 HTI
                clear hX0 HNX
                have hAL : Below w6.heap.size w6 (w6.alloc (.cells #[.int .u8 (10)] 5)) := (Below.refl _ _).alloc (Nat.le_refl _) _
                have HOA := hid (HO6.out.below hAL)
                have HRA : Hid (RowAt encU 1 (w6.alloc (.cells #[.int .u8 (10)] 5)) (.slice (some ⟨w6.heap.size, 0, none⟩) 1 1) [(10 : Int)]) := hid (RowAt.one _ _ _ _ rfl)
                have HNA : Hid (X0.length + [(10 : Int)].length = L + 1 + 1) := by rw [HX5.out]; exact hid rfl
                have hba : base ≤ (w6.alloc (.cells #[.int .u8 (10)] 5)).heap.size := by have := HB6.out.size; have := HBS.out; simp; omega
                have HBA := hid hba
                have HWA := hid (HB6.out.alloc HB6.out.size (.cells #[.int .u8 (10)] 5))
                clear hAL hba

                go_wp2_with (first
                  | ((with_reducible refine wpL_appendR layU (S := 48) Tryd.underlying48 info5 rfl (by omega) base (.slice r2 (L + 1) cap2) (.slice (some ⟨w6.heap.size, 0, none⟩) 1 1) X0 [(10)] (L + 1 + 1) (by simp) HNA.out ?_ ?_ HOA.out HRA.out (by omega) HBA.out ?_); (rfl); (rfl); (intro r3 cap3 w7 ho7 hg7); (simp only [Act.put, List.setIfInBounds_toArray, List.set_cons_zero, List.set_cons_succ])))
                have HO7 : Hid (OwnR encU 5 1 w7 base (.slice r3 (L + 1 + 1) cap3) (txtTo ⟨(K : Int), H, ts, os⟩ (i + 1))) := by rw [HTI.out]; exact hid ho7
                have HB7 : Hid (Below w1.heap.size w1 w7) := by
                  have h9 := hg7.belowR HOA.out HBA.out
                  rw [HBS.out] at h9
                  exact hid (HWA.out.trans h9)
                have HL7 : Hid ((txtTo ⟨(K : Int), H, ts, os⟩ (i + 1)).length = L + 1 + 1) := by rw [HTI.out, List.length_append]; exact HNA
                clear ho7 hg7 HOA HRA HNA HBA HWA HO6 HB6
                go_wp2_with fail
                go_roundw
                case rel => exact ⟨i + 1, L + 1 + 1, r3, cap3, rfl, by simp, by omega, HL7, HOK3, HO7, HB7⟩
                case measure => simp [intOf]; omega
              · have hR' : ((R : Int) == (K : Int) - 1) = false := by simp; omega
                have HTI := hid (HT2.out hR)
                have HO7 : Hid (OwnR encU 5 1 w6 base (.slice r2 (L + 1) cap2) (txtTo ⟨(K : Int), H, ts, os⟩ (i + 1))) := by rw [HTI.out]; exact HO6
                have HL7 : Hid ((txtTo ⟨(K : Int), H, ts, os⟩ (i + 1)).length = L + 1) := by rw [HTI.out]; exact HX5
                clear HO6 HX5
                go_wp2_with fail
                go_roundw
                case rel => exact ⟨i + 1, L + 1, r2, cap2, rfl, by simp, by omega, HL7, HOK3, HO7, HB6⟩
                case measure => simp [intOf]; omega
            · rw [show sgnB 0 0 = 46 from rfl] at HT1 HT2
              clear htc hm0 hmod hdiv
              have hAL : Below wr.heap.size wr (wr.alloc (.cells #[.int .u8 (46)] 5)) := (Below.refl _ _).alloc (Nat.le_refl _) _
              have HOA := hid (HOW.out.below hAL)
              have HRA : Hid (RowAt encU 1 (wr.alloc (.cells #[.int .u8 (46)] 5)) (.slice (some ⟨wr.heap.size, 0, none⟩) 1 1) [(46 : Int)]) := hid (RowAt.one _ _ _ _ rfl)
              have HNA : Hid (X.length + [(46 : Int)].length = L + 1) := by rw [HL.out]; exact hid rfl
              have hba : base ≤ (wr.alloc (.cells #[.int .u8 (46)] 5)).heap.size := by have := HBW.out.size; have := HBS.out; simp; omega
              have HBA := hid hba
              have HWA := hid (HBW.out.alloc HBW.out.size (.cells #[.int .u8 (46)] 5))
              clear hAL hba
              go_upto_region 17 with (first
                | ((with_reducible refine wpL_appendR layU (S := 48) Tryd.underlying48 info5 rfl (by omega) base (.slice r L cap) (.slice (some ⟨wr.heap.size, 0, none⟩) 1 1) X [(46)] (L + 1) (by simp) HNA.out ?_ ?_ HOA.out HRA.out (by omega) HBA.out ?_); (rfl); (rfl); (intro r2 cap2 w5 ho5 hg5); (simp only [Act.put, List.setIfInBounds_toArray, List.set_cons_zero, List.set_cons_succ])))
              have HO5 := hid ho5
              have HB5 : Hid (Below w1.heap.size w1 w5) := by
                have h9 := hg5.belowR HOA.out HBA.out
                rw [HBS.out] at h9
                exact hid (HWA.out.trans h9)
              have a5 : w5.cell? ⟨g, 0, none⟩ = some (.int .i64 (K : Int)) := (HA1.out.below HB5.out HA1.out.lt).cell 0
              have HX5 : Hid ((X ++ [(46 : Int)]).length = L + 1) := by rw [List.length_append]; exact HNA
              clear ho5 hg5 HOA HRA HNA HBA HWA a0 a2 a3 cT cO HOW HL HBW HAW
              go_quiet (fail)
              have HO6 := hid (HO5.out.below (Below.drewN (Below.refl _ _) nq))
              have HB6 := hid (Below.drewN HB5.out nq)
              clear a5 HO5 HB5
              generalize w5.drewN nq = w6 at *
              by_cases hR : R + 1 = K
              · have hR' : ((R : Int) == (K : Int) - 1) = true := by simp; omega
                have HTI := hid (HT1.out hR)
                have HNX := HX5
                obtain ⟨X0, hX0⟩ : ∃ X0, X0 = X ++ [(46 : Int)] := ⟨_, rfl⟩
                rw [← hX0] at HO6 HX5 HTI
                clear hX0 HNX
                have hAL : Below w6.heap.size w6 (w6.alloc (.cells #[.int .u8 (10)] 5)) := (Below.refl _ _).alloc (Nat.le_refl _) _
                have HOA := hid (HO6.out.below hAL)
                have HRA : Hid (RowAt encU 1 (w6.alloc (.cells #[.int .u8 (10)] 5)) (.slice (some ⟨w6.heap.size, 0, none⟩) 1 1) [(10 : Int)]) := hid (RowAt.one _ _ _ _ rfl)
                have HNA : Hid (X0.length + [(10 : Int)].length = L + 1 + 1) := by rw [HX5.out]; exact hid rfl
                have hba : base ≤ (w6.alloc (.cells #[.int .u8 (10)] 5)).heap.size := by have := HB6.out.size; have := HBS.out; simp; omega
                have HBA := hid hba
                have HWA := hid (HB6.out.alloc HB6.out.size (.cells #[.int .u8 (10)] 5))
                clear hAL hba

                go_wp2_with (first
                  | ((with_reducible refine wpL_appendR layU (S := 48) Tryd.underlying48 info5 rfl (by omega) base (.slice r2 (L + 1) cap2) (.slice (some ⟨w6.heap.size, 0, none⟩) 1 1) X0 [(10)] (L + 1 + 1) (by simp) HNA.out ?_ ?_ HOA.out HRA.out (by omega) HBA.out ?_); (rfl); (rfl); (intro r3 cap3 w7 ho7 hg7); (simp only [Act.put, List.setIfInBounds_toArray, List.set_cons_zero, List.set_cons_succ])))
                have HO7 : Hid (OwnR encU 5 1 w7 base (.slice r3 (L + 1 + 1) cap3) (txtTo ⟨(K : Int), H, ts, os⟩ (i + 1))) := by rw [HTI.out]; exact hid ho7
                have HB7 : Hid (Below w1.heap.size w1 w7) := by
                  have h9 := hg7.belowR HOA.out HBA.out
                  rw [HBS.out] at h9
                  exact hid (HWA.out.trans h9)
                have HL7 : Hid ((txtTo ⟨(K : Int), H, ts, os⟩ (i + 1)).length = L + 1 + 1) := by rw [HTI.out, List.length_append]; exact HNA
                clear ho7 hg7 HOA HRA HNA HBA HWA HO6 HB6
                go_wp2_with fail
                go_roundw
                case rel => exact ⟨i + 1, L + 1 + 1, r3, cap3, rfl, by simp, by omega, HL7, HOK3, HO7, HB7⟩
                case measure => simp [intOf]; omega
              · have hR' : ((R : Int) == (K : Int) - 1) = false := by simp; omega
                have HTI := hid (HT2.out hR)
                have HO7 : Hid (OwnR encU 5 1 w6 base (.slice r2 (L + 1) cap2) (txtTo ⟨(K : Int), H, ts, os⟩ (i + 1))) := by rw [HTI.out]; exact HO6
                have HL7 : Hid ((txtTo ⟨(K : Int), H, ts, os⟩ (i + 1)).length = L + 1) := by rw [HTI.out]; exact HX5
                clear HO6 HX5
                go_wp2_with fail
                go_roundw
                case rel => exact ⟨i + 1, L + 1, r2, cap2, rfl, by simp, by omega, HL7, HOK3, HO7, HB6⟩
                case measure => simp [intOf]; omega
            · rw [show sgnB 2 0 = 36 from rfl] at HT1 HT2
              clear htc hm0 hmod hdiv
              have hAL : Below wr.heap.size wr (wr.alloc (.cells #[.int .u8 (36)] 5)) := (Below.refl _ _).alloc (Nat.le_refl _) _
              have HOA := hid (HOW.out.below hAL)
              have HRA : Hid (RowAt encU 1 (wr.alloc (.cells #[.int .u8 (36)] 5)) (.slice (some ⟨wr.heap.size, 0, none⟩) 1 1) [(36 : Int)]) := hid (RowAt.one _ _ _ _ rfl)
              have HNA : Hid (X.length + [(36 : Int)].length = L + 1) := by rw [HL.out]; exact hid rfl
              have hba : base ≤ (wr.alloc (.cells #[.int .u8 (36)] 5)).heap.size := by have := HBW.out.size; have := HBS.out; simp; omega
              have HBA := hid hba
              have HWA := hid (HBW.out.alloc HBW.out.size (.cells #[.int .u8 (36)] 5))
              clear hAL hba
              go_upto_region 17 with (first
                | ((with_reducible refine wpL_appendR layU (S := 48) Tryd.underlying48 info5 rfl (by omega) base (.slice r L cap) (.slice (some ⟨wr.heap.size, 0, none⟩) 1 1) X [(36)] (L + 1) (by simp) HNA.out ?_ ?_ HOA.out HRA.out (by omega) HBA.out ?_); (rfl); (rfl); (intro r2 cap2 w5 ho5 hg5); (simp only [Act.put, List.setIfInBounds_toArray, List.set_cons_zero, List.set_cons_succ])))
              have HO5 := hid ho5
              have HB5 : Hid (Below w1.heap.size w1 w5) := by
                have h9 := hg5.belowR HOA.out HBA.out
                rw [HBS.out] at h9
                exact hid (HWA.out.trans h9)
              have a5 : w5.cell? ⟨g, 0, none⟩ = some (.int .i64 (K : Int)) := (HA1.out.below HB5.out HA1.out.lt).cell 0
              have HX5 : Hid ((X ++ [(36 : Int)]).length = L + 1) := by rw [List.length_append]; exact HNA
              clear ho5 hg5 HOA HRA HNA HBA HWA a0 a2 a3 cT cO HOW HL HBW HAW
              go_quiet (fail)
              have HO6 := hid (HO5.out.below (Below.drewN (Below.refl _ _) nq))
              have HB6 := hid (Below.drewN HB5.out nq)
              clear a5 HO5 HB5
              generalize w5.drewN nq = w6 at *
              by_cases hR : R + 1 = K
              · have hR' : ((R : Int) == (K : Int) - 1) = true := by simp; omega
                have HTI := hid (HT1.out hR)
                have HNX := HX5
                obtain ⟨X0, hX0⟩ : ∃ X0, X0 = X ++ [(36 : Int)] := ⟨_, rfl⟩
                rw [← hX0] at HO6 HX5 HTI
                clear hX0 HNX
                have hAL : Below w6.heap.size w6 (w6.alloc (.cells #[.int .u8 (10)] 5)) := (Below.refl _ _).alloc (Nat.le_refl _) _
                have HOA := hid (HO6.out.below hAL)
                have HRA : Hid (RowAt encU 1 (w6.alloc (.cells #[.int .u8 (10)] 5)) (.slice (some ⟨w6.heap.size, 0, none⟩) 1 1) [(10 : Int)]) := hid (RowAt.one _ _ _ _ rfl)
                have HNA : Hid (X0.length + [(10 : Int)].length = L + 1 + 1) := by rw [HX5.out]; exact hid rfl
                have hba : base ≤ (w6.alloc (.cells #[.int .u8 (10)] 5)).heap.size := by have := HB6.out.size; have := HBS.out; simp; omega
                have HBA := hid hba
                have HWA := hid (HB6.out.alloc HB6.out.size (.cells #[.int .u8 (10)] 5))
                clear hAL hba

                go_wp2_with (first
                  | ((with_reducible refine wpL_appendR layU (S := 48) Tryd.underlying48 info5 rfl (by omega) base (.slice r2 (L + 1) cap2) (.slice (some ⟨w6.heap.size, 0, none⟩) 1 1) X0 [(10)] (L + 1 + 1) (by simp) HNA.out ?_ ?_ HOA.out HRA.out (by omega) HBA.out ?_); (rfl); (rfl); (intro r3 cap3 w7 ho7 hg7); (simp only [Act.put, List.setIfInBounds_toArray, List.set_cons_zero, List.set_cons_succ])))
                have HO7 : Hid (OwnR encU 5 1 w7 base (.slice r3 (L + 1 + 1) cap3) (txtTo ⟨(K : Int), H, ts, os⟩ (i + 1))) := by rw [HTI.out]; exact hid ho7
                have HB7 : Hid (Below w1.heap.size w1 w7) := by
                  have h9 := hg7.belowR HOA.out HBA.out
                  rw [HBS.out] at h9
                  exact hid (HWA.out.trans h9)
                have HL7 : Hid ((txtTo ⟨(K : Int), H, ts, os⟩ (i + 1)).length = L + 1 + 1) := by rw [HTI.out, List.length_append]; exact HNA
                clear ho7 hg7 HOA HRA HNA HBA HWA HO6 HB6
                go_wp2_with fail
                go_roundw
                case rel => exact ⟨i + 1, L + 1 + 1, r3, cap3, rfl, by simp, by omega, HL7, HOK3, HO7, HB7⟩
                case measure => simp [intOf]; omega
              · have hR' : ((R : Int) == (K : Int) - 1) = false := by simp; omega
                have HTI := hid (HT2.out hR)
                have HO7 : Hid (OwnR encU 5 1 w6 base (.slice r2 (L + 1) cap2) (txtTo ⟨(K : Int), H, ts, os⟩ (i + 1))) := by rw [HTI.out]; exact HO6
                have HL7 : Hid ((txtTo ⟨(K : Int), H, ts, os⟩ (i + 1)).length = L + 1) := by rw [HTI.out]; exact HX5
                clear HO6 HX5
                go_wp2_with fail
                go_roundw
                case rel => exact ⟨i + 1, L + 1, r2, cap2, rfl, by simp, by omega, HL7, HOK3, HO7, HB6⟩
                case measure => simp [intOf]; omega
            · obtain ⟨D, hD⟩ : ∃ D, D = o / 10 := ⟨_, rfl⟩
              rw [← hD] at hdiv
              have hD0 : 0 ≤ D := by omega
              have hD9 : D ≤ 9 := by omega
              have hw8 : IntKind.u8.wrap (48 + D) = 48 + D := by unfold IntKind.wrap; simp [IntKind.signed, IntKind.bits]; omega
              have hsg : sgnB 2 o = 48 + D := by unfold sgnB; rw [if_neg (by decide), if_pos hop, ← hD]
              rw [hsg] at HT1 HT2
              clear htc hm0 hsg hD
              have hAL : Below wr.heap.size wr (wr.alloc (.cells #[.int .u8 (48 + D)] 5)) := (Below.refl _ _).alloc (Nat.le_refl _) _
              have HOA := hid (HOW.out.below hAL)
              have HRA : Hid (RowAt encU 1 (wr.alloc (.cells #[.int .u8 (48 + D)] 5)) (.slice (some ⟨wr.heap.size, 0, none⟩) 1 1) [(48 + D : Int)]) := hid (RowAt.one _ _ _ _ rfl)
              have HNA : Hid (X.length + [(48 + D : Int)].length = L + 1) := by rw [HL.out]; exact hid rfl
              have hba : base ≤ (wr.alloc (.cells #[.int .u8 (48 + D)] 5)).heap.size := by have := HBW.out.size; have := HBS.out; simp; omega
              have HBA := hid hba
              have HWA := hid (HBW.out.alloc HBW.out.size (.cells #[.int .u8 (48 + D)] 5))
              clear hAL hba
              go_upto_region 17 with (first
                | ((with_reducible refine wpL_appendR layU (S := 48) Tryd.underlying48 info5 rfl (by omega) base (.slice r L cap) (.slice (some ⟨wr.heap.size, 0, none⟩) 1 1) X [(48 + D)] (L + 1) (by simp) HNA.out ?_ ?_ HOA.out HRA.out (by omega) HBA.out ?_); (rfl); (rfl); (intro r2 cap2 w5 ho5 hg5); (simp only [Act.put, List.setIfInBounds_toArray, List.set_cons_zero, List.set_cons_succ])))
              have HO5 := hid ho5
              have HB5 : Hid (Below w1.heap.size w1 w5) := by
                have h9 := hg5.belowR HOA.out HBA.out
                rw [HBS.out] at h9
                exact hid (HWA.out.trans h9)
              have a5 : w5.cell? ⟨g, 0, none⟩ = some (.int .i64 (K : Int)) := (HA1.out.below HB5.out HA1.out.lt).cell 0
              have HX5 : Hid ((X ++ [(48 + D : Int)]).length = L + 1) := by rw [List.length_append]; exact HNA
              clear ho5 hg5 HOA HRA HNA HBA HWA a0 a2 a3 cT cO HOW HL HBW HAW
              go_quiet (fail)
              have HO6 := hid (HO5.out.below (Below.drewN (Below.refl _ _) nq))
              have HB6 := hid (Below.drewN HB5.out nq)
              clear a5 HO5 HB5
              generalize w5.drewN nq = w6 at *
              by_cases hR : R + 1 = K
              · have hR' : ((R : Int) == (K : Int) - 1) = true := by simp; omega
                have HTI := hid (HT1.out hR)
                have HNX := HX5
                obtain ⟨X0, hX0⟩ : ∃ X0, X0 = X ++ [(48 + D : Int)] := ⟨_, rfl⟩
                rw [← hX0] at HO6 HX5 HTI
                clear hX0 HNX
                have hAL : Below w6.heap.size w6 (w6.alloc (.cells #[.int .u8 (10)] 5)) := (Below.refl _ _).alloc (Nat.le_refl _) _
                have HOA := hid (HO6.out.below hAL)
                have HRA : Hid (RowAt encU 1 (w6.alloc (.cells #[.int .u8 (10)] 5)) (.slice (some ⟨w6.heap.size, 0, none⟩) 1 1) [(10 : Int)]) := hid (RowAt.one _ _ _ _ rfl)
                have HNA : Hid (X0.length + [(10 : Int)].length = L + 1 + 1) := by rw [HX5.out]; exact hid rfl
                have hba : base ≤ (w6.alloc (.cells #[.int .u8 (10)] 5)).heap.size := by have := HB6.out.size; have := HBS.out; simp; omega
                have HBA := hid hba
                have HWA := hid (HB6.out.alloc HB6.out.size (.cells #[.int .u8 (10)] 5))
                clear hAL hba

                go_wp2_with (first
                  | ((with_reducible refine wpL_appendR layU (S := 48) Tryd.underlying48 info5 rfl (by omega) base (.slice r2 (L + 1) cap2) (.slice (some ⟨w6.heap.size, 0, none⟩) 1 1) X0 [(10)] (L + 1 + 1) (by simp) HNA.out ?_ ?_ HOA.out HRA.out (by omega) HBA.out ?_); (rfl); (rfl); (intro r3 cap3 w7 ho7 hg7); (simp only [Act.put, List.setIfInBounds_toArray, List.set_cons_zero, List.set_cons_succ])))
                have HO7 : Hid (OwnR encU 5 1 w7 base (.slice r3 (L + 1 + 1) cap3) (txtTo ⟨(K : Int), H, ts, os⟩ (i + 1))) := by rw [HTI.out]; exact hid ho7
                have HB7 : Hid (Below w1.heap.size w1 w7) := by
                  have h9 := hg7.belowR HOA.out HBA.out
                  rw [HBS.out] at h9
                  exact hid (HWA.out.trans h9)
                have HL7 : Hid ((txtTo ⟨(K : Int), H, ts, os⟩ (i + 1)).length = L + 1 + 1) := by rw [HTI.out, List.length_append]; exact HNA
                clear ho7 hg7 HOA HRA HNA HBA HWA HO6 HB6
                go_wp2_with fail
                go_roundw
                case rel => exact ⟨i + 1, L + 1 + 1, r3, cap3, rfl, by simp, by omega, HL7, HOK3, HO7, HB7⟩
                case measure => simp [intOf]; omega
              · have hR' : ((R : Int) == (K : Int) - 1) = false := by simp; omega
                have HTI := hid (HT2.out hR)
                have HO7 : Hid (OwnR encU 5 1 w6 base (.slice r2 (L + 1) cap2) (txtTo ⟨(K : Int), H, ts, os⟩ (i + 1))) := by rw [HTI.out]; exact HO6
                have HL7 : Hid ((txtTo ⟨(K : Int), H, ts, os⟩ (i + 1)).length = L + 1) := by rw [HTI.out]; exact HX5
                clear HO6 HX5
                go_wp2_with fail
                go_roundw
                case rel => exact ⟨i + 1, L + 1, r2, cap2, rfl, by simp, by omega, HL7, HOK3, HO7, HB6⟩
                case measure => simp [intOf]; omega

          · have h90' : (90 : Int) < o := by omega
            have hbad : okSign o = false := by unfold okSign; rw [decide_eq_false h90, Bool.and_false]
            obtain rfl : TD = false := by rw [HTD2.out]; exact HOFI.out hbad
            obtain rfl : E = 4 := by have := HE.out; simpa using this
            obtain rfl : S = ⟨#[]⟩ := by have := HS.out; simpa using this
            clear HE HS HTD2 HTI HSI HOI HOFI hdiv
            go_wp2
            go_ret2
            exact ⟨rfl, HB1.out.trans (HBW.out.mono HB1.out.size)⟩
        · have hm0' : ((o % 10) != 0) = true := by simp; omega
          have hbad : okSign o = false := by unfold okSign; rw [decide_eq_false hm0, Bool.false_and]
          obtain rfl : TD = false := by rw [HTD2.out]; exact HOFI.out hbad
          obtain rfl : E = 4 := by have := HE.out; simpa using this
          obtain rfl : S = ⟨#[]⟩ := by have := HS.out; simpa using this
          clear HE HS HTD2 HTI HSI HOI HOFI hdiv
          go_wp2
          go_ret2
          exact ⟨rfl, HB1.out.trans (HBW.out.mono HB1.out.size)⟩
      · obtain rfl : i = N2 := by omega
        have hl' : ((i : Int) < (i : Int)) = False := by simp
        obtain rfl : TD = true := by rw [HTD2.out]; exact HOK.out
        obtain rfl : E = 0 := by have := HE.out; simpa using this
        have hcv := HOW.out.string
        obtain ⟨SF, hSF⟩ : ∃ SF, SF = strOfNums (txtTo ⟨(K : Int), H, ts, os⟩ i) := ⟨_, rfl⟩
        rw [← hSF] at hcv
        obtain rfl : S = SF := by have := HS.out; rw [hSF]; simpa using this
        clear hSF HS
        go_wp2
        go_ret2
        exact ⟨rfl, HB1.out.trans (HBW.out.mono HB1.out.size)⟩

end Go.Proofs.YthinldcblbgdnaaDoor
