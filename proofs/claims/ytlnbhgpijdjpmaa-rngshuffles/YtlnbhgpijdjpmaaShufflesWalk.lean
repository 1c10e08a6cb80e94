/- The law of shuffles. -/
import Derived.Test.YtlnbhgpijdjpmaaRefShuf
import Derived.Test.YtlnbhgpijdjpmaaNilWalk
namespace Go.Proofs.Ytlnbhgpijdjpmaa
open Go.RowKit
set_option maxHeartbeats 1000000 in
theorem shuffles_big (s : Int) (p : Option Addr) (M cap : Nat) (w : World) (h : 300 < M) : Calls Try.prog 5 #[.int .u64 s, .slice p M cap] w fun e w' => OutT w e w' := by
  have h8 : Hid (∀ W, Calls Try.prog 8 #[] W fun e w' => e = .returned (.bool true) ∧ Below W.heap.size W w') := awake_any
  have hM : (300 : Int) < (M : Int) := by omega
  go_enter Try.func5, Try.ntmps5
  go_wp2_with fail
  refine Calls.mono (h8.out _) ?_
  rintro e w1 ⟨rfl, hb1⟩
  go_wp2_with fail
  refine Calls.mono (h8.out _) ?_
  rintro e w2 ⟨rfl, hb2⟩
  go_wp2
  go_ret
  exact ⟨rfl, hb1.trans (hb2.mono hb1.size)⟩
/-- What lies there behind the shuffles: both orders, and the list that was handed to one. -/
structure Sh (w W : World) (ga gb gi : Nat) (R zs : List Int) : Prop where
  one : RowB W ga R
  other : RowB W gb R
  given : RowB W gi zs
  below : Below w.heap.size w W
theorem Sh.drewN {w W : World} {ga gb gi : Nat} {R zs : List Int} (h : Sh w W ga gb gi R zs) (n : Nat) : Sh w (W.drewN n) ga gb gi R zs := ⟨h.one, h.other, h.given, Below.drewN h.below n⟩
theorem RowB.below {w w' : World} {g B : Nat} {zs : List Int} (h : RowB w g zs) (hb : Below B w w') (hg : g < B) : RowB w' g zs := h.keep (hb.block g hg)
theorem RowB.only {w w' : World} {g b : Nat} {zs : List Int} (h : RowB w g zs) (ho : Only b w w') (hg : g ≠ b) : RowB w' g zs := h.keep (ho.block g hg h.lt)
set_option maxHeartbeats 2000000 in
theorem shuffles_walk (s : Nat) (hs : s < 18446744073709551616) (zs : List Int) (_ : ∀ z ∈ zs, -9223372036854775808 ≤ z ∧ z ≤ 9223372036854775807) (p : Option Addr) (M cap : Nat) (w : World) (hM : M = zs.length) (hI : IntsAt .i64 w (.slice p M cap) zs) (h : M ≤ 300) : Calls Try.prog 5 #[.int .u64 (s : Int), .slice p M cap] w fun e w' => OutT w e w' := by
  have h8 : Hid (∀ W, Calls Try.prog 8 #[] W fun e w' => e = .returned (.bool true) ∧ Below W.heap.size W w') := awake_any
  have hM1 : (M : Int) ≤ 300 := by omega
  have h11 : Hid (∀ W, Calls Try.prog 11 #[.int .u64 (s : Int)] W fun e w' => e = .returned (P W.heap.size) ∧ w' = W.alloc (.cells #[.int .u64 (s : Int)] 41)) := new_any s
  have h14 : Hid (∀ W b a, Src W b a → Calls Try.prog 14 #[P b] W fun e w' => e = .returned (.int .u64 (a : Int)) ∧ w' = W) := fun W b a h => seed_any b a W h
  have hT : (shuf (M - 1) s zs).2 < 18446744073709551616 := shuf_lt _ _ _ hs
  have HC : Hid (∀ z, 0 < M → (shuf (M - 1) s zs).1.count z = zs.count z) := fun z h0 => shuf_count z _ _ _ (by omega)
  have HLR : Hid ((shuf (M - 1) s zs).1.length = M) := by show _ = M; rw [shuf_length, hM]
  have h17 : Hid (∀ W b v c, Src W b s → IntsAt .i64 W (.slice v M c) zs → Calls Try.prog 17 #[P b, .slice v M c] W fun e w' => OutF W b M (shuf (M - 1) s zs).2 (shuf (M - 1) s zs).1 e w') := fun W b v c hS hv => shuffle_any b s hs zs v M c W hS hM hv (by omega)
  have h18 : Hid (∀ W, Below w.heap.size w W → Calls Try.prog 18 #[.int .u64 (s : Int), .slice p M cap] W fun e w' => OutX W M (shuf (M - 1) s zs).2 (shuf (M - 1) s zs).1 e w') := fun W hb => refShuffle_any s hs zs p M cap W hM (hI.below hb) (by omega)
  generalize (shuf (M - 1) s zs).2 = T at *
  generalize (shuf (M - 1) s zs).1 = R at *
  have HI := hid hI
  have HM := hid (fun (_ : Nat) => hM)
  have hM2 : Hid (M ≤ 1000) := Nat.le_trans h (by omega)
  clear hI hM
  go_enter Try.func5, Try.ntmps5
  go_wp2_with fail
  refine Calls.mono (h8.out _) ?_
  rintro e w1 ⟨rfl, hb1⟩
  have HB1 := hid hb1
  have HI1 := hid (HI.out.below hb1)
  clear hb1
  go_wp2_with (with_reducible refine wpL_append M zs (.slice p M cap) (HM.out 0) hM2.out (by go_simp) (by go_simp) HI1.out ?_; intro pn cn w2 hin hr hb2; have HIN := hid hin; have HR := hid hr; have HB2 := hid hb2; clear hr hb2 hin)
  refine Calls.mono (h11.out _) ?_
  rintro e w3 ⟨rfl, hw3⟩
  have HW3 := hid (fun (_ : Nat) => hw3)
  clear hw3
  have HS3 : Hid (Src w3 w2.heap.size s) := by show Src _ _ _; rw [HW3.out 0]; exact Src.new w2 s
  have HB23 : Hid (Below w2.heap.size w2 w3) := by show Below _ _ _; rw [HW3.out 0]; exact (Below.refl _ w2).alloc (Nat.le_refl _) _
  go_wp2_with fail
  refine Calls.mono (h17.out _ _ _ _ HS3.out (HIN.out.below HB23.out)) ?_
  rintro e w4 ⟨rfl, hr4, hs4, ho4⟩
  have HR4 := hid hr4
  have HS4 := hid hs4
  have HO4 := hid ho4
  clear hr4 hs4 ho4
  have HB4 : Hid (Below w.heap.size w w4) := by
    have b2 := HB1.out.trans (HB2.out.mono HB1.out.size)
    have b3 := b2.trans (HB23.out.mono b2.size)
    exact HO4.out.below b3 b2.size b3.size
  go_wp2_with fail
  refine Calls.mono (h18.out _ HB4.out) ?_
  rintro e w5 ⟨pb, cb, rfl, hr5, hb5⟩
  have HR5 := hid hr5
  have HB5 := hid hb5
  have HS5 : Hid (Src w5 w2.heap.size T) := Blk.below HS4.out hb5 (Src.lt HS4.out)
  have HW5 : Hid (Below w.heap.size w w5) := HB4.out.trans (hb5.mono HB4.out.size)
  clear hr5 hb5
  obtain ⟨ga, hga⟩ : ∃ g, w3.heap.size = g := ⟨_, rfl⟩
  have HGA : Hid (∀ k : Nat, k = 0 → w3.heap.size = ga) := fun _ _ => hga
  rw [hga]
  clear hga h17 h18 h11 h8
  go_wp2_with fail
  refine Calls.mono (h14.out _ _ _ HS5.out) ?_
  rintro e wx ⟨rfl, hw⟩
  subst hw
  go_wp2_with fail
  rcases Nat.eq_zero_or_pos M with h0 | h0
  · have e0 : (M : Int) = 0 := by omega
    go_loopw [10] (fun iv wr => iv = .int .i64 0 ∧ Hid (Below w.heap.size w wr)) (fun _ _ => 0)
    case atStart => exact ⟨rfl, HW5⟩
    case round =>
      obtain ⟨rfl, HB⟩ := hrel
      go_wp2
      go_ret
      exact ⟨rfl, HB.out⟩
  · have HSH : Hid (∃ gb gi, pb = some ⟨gb, 0, none⟩ ∧ pn = some ⟨gi, 0, none⟩ ∧ Sh w wx ga gb gi R zs) := by
      obtain ⟨gb, rfl, _, hb⟩ := HR5.out h0
      obtain ⟨gi, rfl, _, hi⟩ := HR.out h0
      refine ⟨gb, gi, rfl, rfl, ?_, hb, ?_, HW5.out⟩
      · have := RowB.below HR4.out HB5.out HR4.out.lt
        rw [HGA.out 0 rfl] at this
        exact this
      · have h3 := RowB.below hi HB23.out hi.lt
        have h4 := RowB.only h3 HO4.out (Nat.ne_of_lt hi.lt)
        exact RowB.below h4 HB5.out h4.lt
    obtain ⟨gb, gi, rfl, rfl, hsh⟩ := HSH.out
    obtain ⟨sb, so, rfl, hcell⟩ := HI.out.at (HM.out 0) h0
    have HCL : Hid (∀ W, Below w.heap.size w W → ∀ i, i < M → W.cell? ⟨sb, so + i, none⟩ = some (.int .i64 (zs.getD i 0))) := fun W hb i hi => by rw [hb.cell (p := ⟨sb, so + i, none⟩) (lt_of_cell (hcell i hi))]; exact hcell i hi
    have HSH' := hid hsh
    clear HSH hsh hcell HR5 HB5 HS5 HW5 HGA HR HB2 HIN HB1 HI1 HI HR4 HS4 HO4 HB4 HS3 HB23 HW3 h14
    have HLZ : Hid (zs.length = M) := (HM.out 0).symm
    clear HM
    go_loopw [10] (fun iv wr => ∃ i : Nat, i ≤ M ∧ iv = .int .i64 (i : Int) ∧ Hid (Sh w wr ga gb gi R zs)) (fun iv _ => M - (intOf iv).toNat)
    case atStart => exact ⟨0, by omega, rfl, HSH'⟩
    case round =>
      clear HSH'
      obtain ⟨i, hi, rfl, HSH⟩ := hrel
      by_cases hlt : i < M
      · have e0 : (i : Int) < (M : Int) := by omega
        have e00 : (0 : Int) ≤ (i : Int) := by omega
        have c1 := HSH.out.one.cell i (by have := HLR.out; omega)
        have c2 := HSH.out.other.cell i (by have := HLR.out; omega)
        have c3 := HSH.out.given.cell i (by have := HLZ.out; omega)
        have c4 := HCL.out _ HSH.out.below i hlt
        obtain ⟨z, hz⟩ : ∃ z, zs.getD i 0 = z := ⟨_, rfl⟩
        have HZ : Hid (∀ W, Below w.heap.size w W → W.cell? ⟨sb, so + i, none⟩ = some (.int .i64 z)) := fun W hb => by rw [← hz]; exact HCL.out W hb i hlt
        rw [hz] at c3 c4
        clear hz
        generalize R.getD i 0 = r at *
        go_upto_region 13 with fail
        go_quiet (fail)
        go_wp2_with fail
        have start : Hid (∃ k : Nat, k ≤ M ∧ Value.int .i64 0 = .int .i64 (k : Int) ∧ Value.int .i64 0 = .int .i64 (cnt zs z k : Int) ∧ Value.int .i64 0 = .int .i64 (cnt R z k : Int) ∧ Hid (Sh w (wr.drewN nq) ga gb gi R zs)) := ⟨0, by omega, rfl, by simp [cnt], by simp [cnt], HSH.out.drewN _⟩
        have HEND : Hid (cnt zs z M = cnt R z M) := by
          show _ = _
          rw [cnt_all (Nat.le_of_eq HLZ.out), cnt_all (Nat.le_of_eq HLR.out), HC.out z h0]
        clear c1 c2 c3 c4 HSH HC
        go_loopw [11, 12, 13] (fun xv yv kv wk => ∃ k : Nat, k ≤ M ∧ kv = .int .i64 (k : Int) ∧ xv = .int .i64 (cnt zs z k : Int) ∧ yv = .int .i64 (cnt R z k : Int) ∧ Hid (Sh w wk ga gb gi R zs)) (fun _ _ kv _ => M - (intOf kv).toNat)
        case atStart => exact start.out
        case round =>
          clear start
          obtain ⟨k, hk, rfl, rfl, rfl, HSH⟩ := hrel
          by_cases hkl : k < M
          · have f0 : (k : Int) < (M : Int) := by omega
            have f00 : (0 : Int) ≤ (k : Int) := by omega
            have d1 := HSH.out.one.cell k (by have := HLR.out; omega)
            have d2 := HCL.out _ HSH.out.below k hkl
            have d3 := HZ.out _ HSH.out.below
            have HX : Hid (cnt zs z (k + 1) = cnt zs z k + if zs.getD k 0 = z then 1 else 0) := cnt_succ (by have := HLZ.out; omega)
            have HY : Hid (cnt R z (k + 1) = cnt R z k + if R.getD k 0 = z then 1 else 0) := cnt_succ (by have := HLR.out; omega)
            have l1 := cnt_le zs z k
            have l2 := cnt_le R z k
            have fin : Hid (∀ W (x y : Int), (cnt zs z (k + 1) : Int) = x → (cnt R z (k + 1) : Int) = y → Sh w W ga gb gi R zs → ∃ k' : Nat, k' ≤ M ∧ Value.int .i64 ((k : Int) + 1) = .int .i64 (k' : Int) ∧ Value.int .i64 x = .int .i64 (cnt zs z k' : Int) ∧ Value.int .i64 y = .int .i64 (cnt R z k' : Int) ∧ Hid (Sh w W ga gb gi R zs)) := fun W x y hx hy h => ⟨k + 1, by omega, by simp, by rw [hx], by rw [hy], h⟩
            generalize cnt zs z (k + 1) = x1 at *
            generalize cnt R z (k + 1) = y1 at *
            generalize cnt zs z k = x0 at *
            generalize cnt R z k = y0 at *
            generalize zs.getD k 0 = zk at *
            generalize R.getD k 0 = rk at *
            have hm : (intOf (Value.int .i64 ((k : Int) + 1))).toNat = k + 1 ∧ (intOf (Value.int .i64 (k : Int))).toNat = k := by constructor <;> simp [intOf] <;> omega
            have HMS := hid hm
            clear hm
            by_cases h1 : zk = z
            · have b1 : (zk == z) = true := by simp [h1]
              have hx : x1 = x0 + 1 := by rw [HX.out, if_pos h1]
              by_cases h2 : rk = z
              · have b2 : (rk == z) = true := by simp [h2]
                have hy : y1 = y0 + 1 := by rw [HY.out, if_pos h2]
                have HXE := hid (fun (_ : Nat) => hx)
                have HYE := hid (fun (_ : Nat) => hy)
                clear hx hy h1 h2 HX HY
                go_upto_region 19 with fail
                go_quiet (fail)
                go_upto_region 21 with fail
                go_quiet (fail)
                go_wp2
                exact ⟨fin.out _ _ _ (by have := HXE.out 0; omega) (by have := HYE.out 0; omega) (HSH.out.drewN _), by rw [HMS.out.1, HMS.out.2]; omega⟩
              · have b2 : (rk == z) = false := by simp [h2]
                have hy : y1 = y0 := by rw [HY.out, if_neg h2]; rfl
                have HXE := hid (fun (_ : Nat) => hx)
                have HYE := hid (fun (_ : Nat) => hy)
                clear hx hy h1 h2 HX HY
                go_upto_region 19 with fail
                go_quiet (fail)
                go_upto_region 21 with fail
                go_quiet (fail)
                go_wp2
                exact ⟨fin.out _ _ _ (by have := HXE.out 0; omega) (by have := HYE.out 0; omega) (HSH.out.drewN _), by rw [HMS.out.1, HMS.out.2]; omega⟩
            · have b1 : (zk == z) = false := by simp [h1]
              have hx : x1 = x0 := by rw [HX.out, if_neg h1]; rfl
              by_cases h2 : rk = z
              · have b2 : (rk == z) = true := by simp [h2]
                have hy : y1 = y0 + 1 := by rw [HY.out, if_pos h2]
                have HXE := hid (fun (_ : Nat) => hx)
                have HYE := hid (fun (_ : Nat) => hy)
                clear hx hy h1 h2 HX HY
                go_upto_region 19 with fail
                go_quiet (fail)
                go_upto_region 21 with fail
                go_quiet (fail)
                go_wp2
                exact ⟨fin.out _ _ _ (by have := HXE.out 0; omega) (by have := HYE.out 0; omega) (HSH.out.drewN _), by rw [HMS.out.1, HMS.out.2]; omega⟩
              · have b2 : (rk == z) = false := by simp [h2]
                have hy : y1 = y0 := by rw [HY.out, if_neg h2]; rfl
                have HXE := hid (fun (_ : Nat) => hx)
                have HYE := hid (fun (_ : Nat) => hy)
                clear hx hy h1 h2 HX HY
                go_upto_region 19 with fail
                go_quiet (fail)
                go_upto_region 21 with fail
                go_quiet (fail)
                go_wp2
                exact ⟨fin.out _ _ _ (by have := HXE.out 0; omega) (by have := HYE.out 0; omega) (HSH.out.drewN _), by rw [HMS.out.1, HMS.out.2]; omega⟩
          · obtain rfl : k = M := by omega
            have e := HEND.out
            rw [e]
            clear e
            generalize cnt R z k = y0 at *
            go_wp2
            exact ⟨⟨i + 1, by omega, by simp, HSH⟩, by simp [intOf]; omega⟩
      · obtain rfl : i = M := by omega
        go_wp2
        go_ret
        exact ⟨rfl, HSH.out.below⟩
end Go.Proofs.Ytlnbhgpijdjpmaa
