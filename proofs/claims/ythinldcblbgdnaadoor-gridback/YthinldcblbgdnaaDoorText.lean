/- The program's Text 12: the walk. -/
import Derived.Test.YthinldcblbgdnaaDoorTxw
namespace Go.Proofs.YthinldcblbgdnaaDoor
open Go.RowKit
theorem Bu.below {w w' : World} {b : Nat} {xs : List Int} (h : Bu w b xs) (hb : Below w.heap.size w w') : Bu w' b xs := by
  obtain ⟨u, r, cap, hu, hk, ho⟩ := h
  exact ⟨u, r, cap, hu, hk.below hb hk.lt, ho.below hb⟩
set_option maxRecDepth 20000 in
set_option maxHeartbeats 8000000 in
theorem text_any (m : Mp) (v : Value) (w : World) (hm : MapAt w v m) : Calls Tryd.prog 12 #[v] w fun e w' => OutText w m e w' := by
  have h15 : Hid (∀ W v, MapAt W v m → Calls Tryd.prog 15 #[v] W fun e w' => Out W (.bool (formed m)) e w') := fun W v h => formed_any m v W h
  have h31 : Hid (∀ o W, 0 ≤ o → Calls Tryd.prog 31 #[.int .i64 o] W fun e w' => e = .returned (.bool (okSign o)) ∧ w' = W) := fun o W h => hasSign_any o h W
  have h33 : Hid (∀ t o W, (((t = 0 ∨ t = 1) ∧ o = 0) ∨ (t = 2 ∧ 0 ≤ o ∧ o ≤ 90)) → Calls Tryd.prog 33 #[.int .i64 t, .int .i64 o] W fun e w' => e = .returned (.int .u8 (sgnB t o)) ∧ w' = W) := fun t o W h => signOf_any t o h W
  have h32 : Hid (∀ b z X W, Bu W b X → X.length + 1 ≤ 1000000 → Calls Tryd.prog 32 #[.pointer (some ⟨b, 0, none⟩), .int .u8 z] W fun e w' => e = .returned .nilIface ∧ Bu w' b (X ++ [z]) ∧ Below b W w') := fun b z X W h hl => writeByte_any b z X W h hl
  have HM := hid (fun W (h : Below w.heap.size w W) => hm.below h)
  obtain ⟨p, c, q, d, rfl, hT, hO⟩ := hm
  have HT := hid (fun W (h : Below w.heap.size w W) => hT.below h)
  have HO := hid (fun W (h : Below w.heap.size w W) => hO.below h)
  have HTW := hid hT
  have HOW := hid hO
  have HE : Hid (textE m = if told m then 0 else 4) := rfl
  have HS : Hid (textS m = if told m then strOfNums (txtTo m m.ts.length) else ⟨#[]⟩) := rfl
  have HTD : Hid (told m = (formed m && okTo m m.ts.length)) := rfl
  have HF : Hid (formed m = true → (4 ≤ m.W ∧ m.W ≤ 20) ∧ (4 ≤ m.H ∧ m.H ≤ 20) ∧ m.os.length = m.ts.length ∧ (m.ts.length : Int) = m.W * m.H ∧ m.ts.length ≤ 400 ∧ (∀ i, i < m.ts.length → isTile (m.ts.getD i 0) (m.os.getD i 0) = true) ∧ ∀ i, i ≤ m.ts.length → ∀ z ∈ txtTo m i, 0 ≤ z ∧ z < 256) := fun h => by
    obtain ⟨h1, h2, h3, h4, -⟩ := formed_of h
    have := prod_bound h1 h2
    exact ⟨h1, h2, by omega, h3, by omega, fun i hi => tile_at h hi, fun i hi => txtTo_byte h i hi⟩
  have HTX := hid (fun i => txtTo_len m i)
  have HOF : Hid (∀ i, okSign (m.os.getD i 0) = false → i < m.ts.length → okTo m m.ts.length = false) := fun i h hi => okTo_false h _ hi
  have HOS : Hid (∀ i, okTo m (i + 1) = (okTo m i && okSign (m.os.getD i 0))) := fun i => rfl
  have HSG : Hid (∀ i, sgAt m i = sgnB (m.ts.getD i 0) (m.os.getD i 0)) := fun i => rfl
  have HRW : Hid (∀ K y, m.W.toNat = K → 0 < K → txtTo m ((y + 1) * K) = txtTo m (y * K) ++ sgRow m (y * K) K ++ [10]) := fun K y h h0 => txt_row m K y h h0
  have HSR : Hid (∀ i x, sgRow m i (x + 1) = sgRow m i x ++ [sgAt m (i + x)]) := fun i x => rfl
  have HSL : Hid (∀ i x, (sgRow m i x).length = x) := fun i x => sgRow_len m i x
  have HT0 : Hid (txtTo m 0 = [] ∧ okTo m 0 = true ∧ ∀ i, sgRow m i 0 = []) := ⟨rfl, rfl, fun _ => rfl⟩
  have HNE : Hid (∀ i, 0 < i → txtTo m i ≠ []) := fun i h => txtTo_ne i h
  unfold OutText
  generalize textE m = E at *
  generalize textS m = S at *
  generalize told m = TD at *
  obtain ⟨V, hV⟩ : ∃ V, V = w.alloc (.cells #[Value.int .i64 m.W, .int .i64 m.H, .slice p m.ts.length c, .slice q m.os.length d] 24) := ⟨_, rfl⟩
  obtain ⟨g, hg⟩ : ∃ g, g = w.heap.size := ⟨_, rfl⟩
  have HB : Hid (Below w.heap.size w V) := by rw [hV]; exact hid ((Below.refl _ _).alloc (Nat.le_refl _) _)
  have HA : Hid (Blk V g [I m.W, I m.H, .slice p m.ts.length c, .slice q m.os.length d] 24) := by rw [hV, hg]; exact hid (Blk.new w [I m.W, I m.H, .slice p m.ts.length c, .slice q m.os.length d] 24)
  clear hT hO
  go_enter Tryd.func12, Tryd.ntmps12
  go_upto_region 1 with fail
  rw [← hV, ← hg]
  clear hV hg
  have a0 : V.cell? ⟨g, 0, none⟩ = some (.int .i64 m.W) := HA.out.cell 0
  have a1 : V.cell? ⟨g, 1, none⟩ = some (.int .i64 m.H) := HA.out.cell 1
  have a2 : V.cell? ⟨g, 2, none⟩ = some (.slice p m.ts.length c) := HA.out.cell 2
  have a3 : V.cell? ⟨g, 3, none⟩ = some (.slice q m.os.length d) := HA.out.cell 3
  have H15 := hid (h15.out V _ (HM.out V HB.out))
  unfold Out at H15
  obtain ⟨W, H, ts, os⟩ := m
  simp only at *
  generalize ts.length = N at *
  generalize os.length = N2 at *
  generalize formed ⟨W, H, ts, os⟩ = F at *
  go_wp2_with fail
  refine Calls.mono H15.out ?_
  rintro e w1 ⟨rfl, hb1⟩
  have HB1 := hid (HB.out.trans (hb1.mono HB.out.size))
  have HA1 := hid (HA.out.below hb1 HA.out.lt)
  clear hb1 a0 a1 a2 a3 HB HA H15 h15 HM
  rcases F with _ | _
  · obtain rfl : TD = false := by have := HTD.out; simpa using this
    obtain rfl : E = 4 := by have := HE.out; simpa using this
    obtain rfl : S = ⟨#[]⟩ := by have := HS.out; simpa using this
    go_wp2
    go_ret2
    exact ⟨rfl, HB1.out⟩
  · obtain ⟨⟨hW1, hW2⟩, ⟨hH1, hH2⟩, rfl, hWH, hN4, htile, hbyte⟩ := HF.out rfl
    have HTL := hid htile
    have HBY := hid hbyte
    have HTD2 : Hid (TD = okTo ⟨W, H, ts, os⟩ N2) := by have := HTD.out; rw [Bool.true_and] at this; exact hid this
    clear HF HTD htile hbyte
    obtain ⟨K, rfl⟩ : ∃ K : Nat, W = (K : Int) := ⟨W.toNat, by omega⟩
    obtain ⟨R, rfl⟩ : ∃ R : Nat, H = (R : Int) := ⟨H.toNat, by omega⟩
    have hRK : N2 = R * K := by
      have : (N2 : Int) = ((R * K : Nat) : Int) := by rw [hWH, Int.natCast_mul, Int.mul_comm]
      omega
    have HRK := hid hRK
    obtain ⟨bB, hbB⟩ : ∃ b, b = w1.heap.size := ⟨_, rfl⟩
    obtain ⟨U, hU⟩ : ∃ U, U = w1.alloc (.cells #[Value.pointer none, .slice none 0 0] 50) := ⟨_, rfl⟩
    have hBU : Below w.heap.size w U := by rw [hU]; exact HB1.out.alloc HB1.out.size _
    have hgb : g < bB := by rw [hbB]; exact HA1.out.lt
    have hAU : Blk U g [I (K : Int), I (R : Int), .slice p N2 c, .slice q N2 d] 24 := by rw [hU]; exact HA1.out.alloc _
    have hBu : Bu U bB [] := ⟨_, none, 0, Or.inl rfl, by rw [hU, hbB]; exact Blk.new w1 [.pointer none, .slice none 0 0] 50, OwnR.nil _ _ _ _ _⟩
    have hwb : w.heap.size ≤ bB := by rw [hbB]; exact HB1.out.size
    have HTU := hid (HT.out U hBU)
    have HOU := hid (HO.out U hBU)
    have HBU := hid hBU
    have HAU := hid hAU
    have HWB := hid hwb
    have HBU0 : Hid (Bu U bB (txtTo ⟨(K : Int), (R : Int), ts, os⟩ (0 * K))) := by rw [Nat.zero_mul, HT0.out.1]; exact hid hBu
    have HLT : Hid (bB < U.heap.size) := hid (by rw [hU, hbB]; simp)
    have HOK0 : Hid (okTo ⟨(K : Int), (R : Int), ts, os⟩ (0 * K) = true) := by rw [Nat.zero_mul]; exact HT0.out.2.1
    go_upto_region 4 with fail
    rw [← hU, ← hbB]
    clear hU hbB hBU hAU hBu hwb HA1 HB1 HT HO hRK hWH
    have a1 : U.cell? ⟨g, 1, none⟩ = some (.int .i64 (R : Int)) := HAU.out.cell 1
    go_wp2_with fail
    go_loopw [13] (fun yv wr => ∃ y : Nat, yv = .int .i64 (y : Int) ∧ y ≤ R ∧ Hid (okTo ⟨(K : Int), (R : Int), ts, os⟩ (y * K) = true) ∧ Hid (Bu wr bB (txtTo ⟨(K : Int), (R : Int), ts, os⟩ (y * K))) ∧ Hid (Below bB U wr)) (fun yv _ => R - (intOf yv).toNat)
    case atStart => exact ⟨0, rfl, by omega, HOK0, HBU0, hid (Below.refl _ _)⟩
    case round =>
      clear HOK0 HBU0 a1
      obtain ⟨y, rfl, hy, HOK, HBu, HBW⟩ := hrel
      by_cases hl : y < R
      · have hl' : (y : Int) < (R : Int) := by omega
        obtain ⟨P, hP⟩ : ∃ P, P = y * K := ⟨_, rfl⟩
        have hPK : P + K ≤ N2 := by
          have h1 : (y + 1) * K ≤ R * K := Nat.mul_le_mul_right K (by omega)
          rw [Nat.add_mul, Nat.one_mul, ← hP, ← HRK.out] at h1
          exact h1
        have hPi : (y : Int) * (K : Int) = (P : Int) := by rw [hP, Int.natCast_mul]
        have HR1 := hid (HRW.out K y (by simp) (by omega))
        rw [← hP] at HOK HBu HR1
        have a0 : wr.cell? ⟨g, 0, none⟩ = some (.int .i64 (K : Int)) := by rw [HBW.out.cell (p := ⟨g, 0, none⟩) hgb]; exact HAU.out.cell 0
        have hl20 : (txtTo ⟨(K : Int), (R : Int), ts, os⟩ P).length ≤ 800 := by have := HTX.out P; omega
        have HPE := hid hP
        clear hP
        go_wp2_with fail
        go_loopw [18] (fun xv wq => ∃ x : Nat, xv = .int .i64 (x : Int) ∧ x ≤ K ∧ Hid (okTo ⟨(K : Int), (R : Int), ts, os⟩ (P + x) = true) ∧ Hid (Bu wq bB (txtTo ⟨(K : Int), (R : Int), ts, os⟩ P ++ sgRow ⟨(K : Int), (R : Int), ts, os⟩ P x)) ∧ Hid (Below bB U wq)) (fun xv _ => K - (intOf xv).toNat)
        case atStart => exact ⟨0, rfl, by omega, HOK, by rw [HT0.out.2.2, List.append_nil]; exact HBu, HBW⟩
        case round =>
          clear HOK HBu HBW a0
          obtain ⟨x, rfl, hx, HOK, HBu, HBW⟩ := hrel
          have a0 : wr.cell? ⟨g, 0, none⟩ = some (.int .i64 (K : Int)) := by rw [HBW.out.cell (p := ⟨g, 0, none⟩) hgb]; exact HAU.out.cell 0
          have a2 : wr.cell? ⟨g, 2, none⟩ = some (.slice p N2 c) := by rw [HBW.out.cell (p := ⟨g, 2, none⟩) hgb]; exact HAU.out.cell 2
          have a3 : wr.cell? ⟨g, 3, none⟩ = some (.slice q N2 d) := by rw [HBW.out.cell (p := ⟨g, 3, none⟩) hgb]; exact HAU.out.cell 3
          have hlx : (txtTo ⟨(K : Int), (R : Int), ts, os⟩ P ++ sgRow ⟨(K : Int), (R : Int), ts, os⟩ P x).length + 1 ≤ 1000000 := by rw [List.length_append, HSL.out]; omega
          by_cases hx2 : x < K
          · have hx2' : (x : Int) < (K : Int) := by omega
            obtain ⟨Q, hQ⟩ : ∃ Q, Q = P + x := ⟨_, rfl⟩
            have hQi : (P : Int) + (x : Int) = (Q : Int) := by omega
            have hQ2 : Q < N2 := by omega
            have hQ2' : (Q : Int) < (N2 : Int) := by omega
            have hQ0 : (0 : Int) ≤ (Q : Int) := by omega
            have hP400 : (P : Int) ≤ 400 := by omega
            have hQ400 : (Q : Int) ≤ 400 := by omega
            obtain ⟨sb, so, rfl, ht⟩ := HTW.out.pos Q hQ2
            obtain ⟨ob, oo, rfl, ho⟩ := HOW.out.pos Q hQ2
            have ht1 := ht Q hQ2
            have ho1 := ho Q hQ2
            have lt1 := lt_of_cell ht1
            have lt2 := lt_of_cell ho1
            have hwbb := HWB.out
            have cT : wr.cell? ⟨sb, so + Q, none⟩ = some (.int .i64 (ts.getD Q 0)) := by rw [HBW.out.cell (p := ⟨sb, so + Q, none⟩) (by show sb < bB; exact Nat.lt_of_lt_of_le lt1 hwbb), HBU.out.cell (p := ⟨sb, so + Q, none⟩) lt1]; exact ht1
            have cO : wr.cell? ⟨ob, oo + Q, none⟩ = some (.int .i64 (os.getD Q 0)) := by rw [HBW.out.cell (p := ⟨ob, oo + Q, none⟩) (by show ob < bB; exact Nat.lt_of_lt_of_le lt2 hwbb), HBU.out.cell (p := ⟨ob, oo + Q, none⟩) lt2]; exact ho1
            have htl := HTL.out Q hQ2
            have HSI := hid (HSG.out Q)
            have HOI := hid (HOS.out Q)
            have HOFI := hid (fun h => HOF.out Q h hQ2)
            have HSX := hid (HSR.out P x)
            rw [← hQ] at HOK HSX
            have HQ := hid hQ
            clear ht ho ht1 ho1 lt1 lt2 hwbb hQ
            generalize ts.getD Q 0 = t at *
            generalize os.getD Q 0 = o at *
            have htc : ((t = 0 ∨ t = 1) ∧ o = 0) ∨ (t = 2 ∧ 0 ≤ o ∧ o ≤ 1000) := by
              unfold isTile at htl
              simp only [Bool.or_eq_true, Bool.and_eq_true, beq_iff_eq, decide_eq_true_eq] at htl
              omega
            have HC31 := hid (h31.out o wr (by omega))
            have HHTC := hid htc
            clear htl htc
            go_wp2_with fail
            refine Calls.mono HC31.out ?_
            rintro e w3 ⟨rfl, rfl⟩
            clear HC31
            cases hsg : okSign o
            · obtain rfl : TD = false := by rw [HTD2.out]; exact HOFI.out hsg
              obtain rfl : E = 4 := by have := HE.out; simpa using this
              obtain rfl : S = ⟨#[]⟩ := by have := HS.out; simpa using this
              clear hsg HE HS HTD2 HOFI
              go_wp2
              go_ret2
              exact ⟨rfl, HBU.out.trans (HBW.out.mono HWB.out)⟩
            · have ho90 : o ≤ 90 := by
                unfold okSign at hsg
                simp only [Bool.and_eq_true, decide_eq_true_eq] at hsg
                exact hsg.2
              have HC33 := hid (fun W => h33.out t o W (by have := HHTC.out; omega))
              have HOK3 : Hid (okTo ⟨(K : Int), (R : Int), ts, os⟩ (P + (x + 1)) = true) := by rw [← Nat.add_assoc, ← HQ.out, HOI.out, HOK.out, hsg]; exact hid rfl
              rw [HSI.out] at HSX
              clear hsg ho90 HHTC HOI HOFI HOK HSI
              generalize sgnB t o = Z at *
              go_upto_region 13 with fail
              go_still_tail 11, (by kernel_rfl)
              repeat still_step
              still_call (HC33.out _)
              repeat still_step
              refine wpStill_nil ?_
              go_wp2_with fail
              refine Calls.mono (h32.out bB Z _ _ (by first | exact HBu.out | exact HBu.out.below (Below.drew (Below.refl _ _))) hlx) ?_
              rintro e w4 ⟨rfl, hbu4, hb4⟩
              have HB4 : Hid (Bu w4 bB (txtTo ⟨(K : Int), (R : Int), ts, os⟩ P ++ sgRow ⟨(K : Int), (R : Int), ts, os⟩ P (x + 1))) := by rw [HSX.out, ← List.append_assoc]; exact hid hbu4
              have HW4 : Hid (Below bB U w4) := by first | exact hid (HBW.out.trans hb4) | exact hid ((Below.drew HBW.out).trans hb4)
              clear hbu4 hb4 HBu HBW cT cO a0 a2 a3 HSX
              go_wp2_with fail
              go_roundw
              case rel => exact ⟨x + 1, by simp, by omega, HOK3, HB4, HW4⟩
              case measure => simp [intOf]; omega
          · obtain rfl : x = K := by omega
            have hx2' : ((x : Int) < (x : Int)) = False := by simp
            have HC32 := hid (h32.out bB 10 _ wr HBu.out hlx)
            clear HBu
            go_wp2_with fail
            refine Calls.mono HC32.out ?_
            rintro e w4 ⟨rfl, hbu4, hb4⟩
            have HB4 : Hid (Bu w4 bB (txtTo ⟨(x : Int), (R : Int), ts, os⟩ ((y + 1) * x))) := by rw [HR1.out]; exact hid hbu4
            have HW4 := hid (HBW.out.trans hb4)
            have HOK4 : Hid (okTo ⟨(x : Int), (R : Int), ts, os⟩ ((y + 1) * x) = true) := by rw [Nat.add_mul, Nat.one_mul, ← HPE.out]; exact HOK
            clear hbu4 hb4 HBW HC32 HOK
            go_wp2_with fail
            go_roundw
            case rel => exact ⟨y + 1, by simp, by omega, HOK4, HB4, HW4⟩
            case measure => simp [intOf]; omega

      · obtain rfl : y = R := by omega
        have hl' : ((y : Int) < (y : Int)) = False := by simp
        rw [← HRK.out] at HOK HBu
        obtain rfl : TD = true := by rw [HTD2.out]; exact HOK.out
        obtain rfl : E = 0 := by have := HE.out; simpa using this
        have hl20 := HTX.out N2
        have hs := hid (string34 bB _ wr HBu.out (HNE.out N2 (by have := HRK.out; rw [this]; exact Nat.mul_pos (by omega) (by omega))) (HBY.out N2 (Nat.le_refl _)) (by omega))
        obtain ⟨SF, hSF⟩ : ∃ SF, SF = strOfNums (txtTo ⟨(K : Int), (y : Int), ts, os⟩ N2) := ⟨_, rfl⟩
        rw [← hSF] at hs
        obtain rfl : S = SF := by have := HS.out; rw [hSF]; simpa using this
        clear hSF HS
        go_wp2_with fail
        refine Calls.mono hs.out ?_
        rintro e w9 ⟨rfl, hb9⟩
        go_wp2
        go_ret2
        exact ⟨rfl, HBU.out.trans ((HBW.out.trans hb9).mono HWB.out)⟩
end Go.Proofs.YthinldcblbgdnaaDoor
