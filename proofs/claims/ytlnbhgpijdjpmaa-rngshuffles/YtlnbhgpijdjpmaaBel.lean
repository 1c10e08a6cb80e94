/- A number below a limit: numbers are taken until one is fair; one that is comes, as the seed comes to 0. -/
import Derived.Test.YtlnbhgpijdjpmaaSrc
namespace Go.Proofs.Ytlnbhgpijdjpmaa
open Go.RowKit
theorem far_zero' {M S I K t : Nat} (e : S * I = K * M + 1) (ht : t < M) (h : (M - t) * I % M = 0) : t = 0 := by
  have hu : 0 < M - t ∧ M - t ≤ M ∧ (M - t = M → t = 0) := by omega
  generalize M - t = u at *
  obtain ⟨h1, h2, h3⟩ := hu
  have d1 : M ∣ u * I := Nat.dvd_of_mod_eq_zero h
  have d2 : M ∣ u * I * S := Nat.dvd_mul_right_of_dvd d1 _
  rw [Nat.mul_assoc, Nat.mul_comm I, e, Nat.mul_add, ← Nat.mul_assoc, Nat.mul_one] at d2
  have d3 := (Nat.dvd_add_right (Nat.dvd_mul_left _ _)).1 d2
  exact h3 (Nat.le_antisymm h2 (Nat.le_of_dvd h1 d3))
theorem far_nxt' {M S I K t : Nat} (e : S * I = K * M + 1) (ht : t < M) (hS : S < M) (h : (M - t) * I % M ≠ 0) : (M - (t + S) % M) * I % M + 1 = (M - t) * I % M := by
  have hu : M - t = (M - (t + S) % M) + S ∨ (M - t) + M = (M - (t + S) % M) + S := by
    rcases Nat.lt_or_ge (t + S) M with hl | hl
    · rw [Nat.mod_eq_of_lt hl]; omega
    · rw [Nat.mod_eq_sub_mod hl, Nat.mod_eq_of_lt (by omega)]; omega
  generalize M - t = u at *
  generalize M - (t + S) % M = v at *
  have e : u * I % M = (v * I + 1) % M := by
    rcases hu with hu | hu
    · rw [hu, Nat.add_mul, e, Nat.add_comm (K * M), ← Nat.add_assoc, Nat.add_mul_mod_self_right]
    · have e1 : (u + M) * I % M = u * I % M := by
        rw [Nat.add_mul, Nat.mul_comm M, Nat.add_mul_mod_self_right]
      rw [← e1, hu, Nat.add_mul, e, Nat.add_comm (K * M), ← Nat.add_assoc, Nat.add_mul_mod_self_right]
  generalize u * I = X at *
  generalize v * I = Y at *
  have hM : 0 < M := by omega
  have hy := Nat.mod_lt Y hM
  rw [e] at h ⊢
  rw [← Nat.mod_add_mod] at h ⊢
  rcases Nat.lt_or_ge (Y % M + 1) M with hl | hl
  · rw [Nat.mod_eq_of_lt hl]
  · exfalso; apply h
    rw [show Y % M + 1 = M by omega, Nat.mod_self]
/-- In how many steps a seed comes to 0. -/
def far (t : Nat) : Nat := (18446744073709551616 - t) * 17428512612931826493 % 18446744073709551616
theorem step_inv : 11400714819323198485 * 17428512612931826493 = 10771413168148108919 * 18446744073709551616 + 1 := by decide
theorem far_zero {t : Nat} (ht : t < 18446744073709551616) (h : far t = 0) : t = 0 := far_zero' step_inv ht h
theorem far_nxt {t : Nat} (ht : t < 18446744073709551616) (h : far t ≠ 0) : far (nxt t) + 1 = far t := far_nxt' step_inv ht (by decide) h
theorem scat_zero : scat 0 = 0 := by decide +kernel
theorem far_less {last s : Nat} (h : ¬ scat (nxt s) ≤ last) : far (nxt (nxt s)) < far (nxt s) := by
  have h0 : far (nxt s) ≠ 0 := fun h0 => by
    apply h
    rw [far_zero (nxt_lt s) h0, scat_zero]
    exact Nat.zero_le _
  have := far_nxt (nxt_lt s) h0
  omega
/-- The seed of the first number that is not above last, of at most k + 1. -/
def belF (last : Nat) : Nat → Nat → Nat
  | 0, s => nxt s
  | k + 1, s => if scat (nxt s) ≤ last then nxt s else belF last k (nxt s)
theorem belF_lt (last : Nat) : ∀ k s, belF last k s < 18446744073709551616
  | 0, s => nxt_lt s
  | k + 1, s => by
    rw [belF]
    split
    · exact nxt_lt s
    · exact belF_lt last k _
/-- The seed of the first number that is not above last. -/
def belS (last s : Nat) : Nat := belF last (far (nxt s)) s
theorem belS_yes {last s : Nat} (h : scat (nxt s) ≤ last) : belS last s = nxt s := by
  unfold belS
  generalize far (nxt s) = k
  cases k with
  | zero => rfl
  | succ k => rw [belF, if_pos h]
theorem belS_no {last s : Nat} (h : ¬ scat (nxt s) ≤ last) : belS last s = belS last (nxt s) := by
  have h0 : far (nxt s) ≠ 0 := fun h0 => by
    apply h
    rw [far_zero (nxt_lt s) h0, scat_zero]
    exact Nat.zero_le _
  have := far_nxt (nxt_lt s) h0
  unfold belS
  rw [← this, belF, if_neg h]
theorem belS_lt (last s : Nat) : belS last s < 18446744073709551616 := belF_lt _ _ _
/-- The greatest fair number. -/
def lastF (n : Nat) : Nat := 18446744073709551615 - 18446744073709551616 % n
/-- The seed behind Below, and its number. -/
def bS (n s : Nat) : Nat := if n = 0 then s else belS (lastF n) s
def bN (n s : Nat) : Nat := if n = 0 then 0 else scat (bS n s) % n
theorem bS_lt {n s : Nat} (h : s < 18446744073709551616) : bS n s < 18446744073709551616 := by
  unfold bS; split
  · exact h
  · exact belS_lt _ _
theorem bN_lt {n s : Nat} (h : 0 < n) : bN n s < n := by
  unfold bN; rw [if_neg (by omega)]; exact Nat.mod_lt _ h
theorem rest1 {n : Nat} (h0 : 0 < n) (h : n < 18446744073709551616) : (18446744073709551616 - n) % n = 18446744073709551616 % n := by
  rw [← Nat.mod_eq_sub_mod (by omega)]
theorem rest2 (n : Nat) : (18446744073709551615 % n + 1) % n = 18446744073709551616 % n := by
  rw [Nat.mod_add_mod]
set_option maxHeartbeats 1000000 in
theorem lastFair_any (n : Nat) (h0 : 0 < n) (hn : n < 18446744073709551616) (w : World) : Calls Try.prog 20 #[.int .u64 (n : Int)] w fun e w' => e = .returned (.int .u64 (lastF n : Int)) ∧ w' = w := by
  have b1 : IntKind.u64.wrap (-(n : Int)) = ((18446744073709551616 - n : Nat) : Int) := by rw [IntKind.wrap_u64]; omega
  have hlt := Nat.mod_lt 18446744073709551616 h0
  have b2 : ((18446744073709551616 - n : Nat) : Int) % (n : Int) = ((18446744073709551616 % n : Nat) : Int) := by rw [← rest1 h0 hn]; simp
  unfold lastF
  have h1 : 18446744073709551616 - n < 18446744073709551616 := by omega
  generalize 18446744073709551616 - n = m at *
  generalize 18446744073709551616 % n = r at *
  have b3 : (18446744073709551615 : Int) - (r : Int) = ((18446744073709551615 - r : Nat) : Int) := by omega
  have h2 : 18446744073709551615 - r < 18446744073709551616 := by omega
  generalize 18446744073709551615 - r = l at *
  go_enter Try.func20, Try.ntmps20
  go_wp2
  go_ret
  exact ⟨rfl, rfl⟩
/-- The seed in block b. -/
def seedOf (w : World) (b : Nat) : Nat := (intOf ((w.cell? ⟨b, 0, none⟩).getD undef)).toNat
theorem Src.seedOf {w : World} {b s : Nat} (h : Src w b s) : seedOf w b = s := by
  unfold Ytlnbhgpijdjpmaa.seedOf
  rw [show w.cell? ⟨b, 0, none⟩ = some (.int .u64 (s : Int)) by rw [Blk.cell h]; rfl]
  simp [intOf]
set_option maxHeartbeats 1000000 in
theorem below_any (b s n : Nat) (hs : s < 18446744073709551616) (hn : n < 18446744073709551616) (w : World) (h : Src w b s) : Calls Try.prog 15 #[P b, .int .u64 (n : Int)] w fun e w' => OutS w b (bS n s) (.int .u64 (bN n s : Int)) e w' := by
  have H := hid h
  clear h
  rcases Nat.eq_zero_or_pos n with rfl | h0
  · unfold P
    go_enter Try.func15, Try.ntmps15
    go_wp2
    go_ret
    exact ⟨rfl, H.out, Only.refl _ _⟩
  · have HT : Hid (∀ m, m = n → bS m s = belS (lastF n) s ∧ bN m s = scat (belS (lastF n) s) % n) := fun m hm => by
      subst hm
      unfold bN bS
      rw [if_neg (by omega), if_neg (by omega)]
      exact ⟨rfl, rfl⟩
    have h20 : Hid (∀ W, Calls Try.prog 20 #[.int .u64 (n : Int)] W fun e w' => e = .returned (.int .u64 (lastF n : Int)) ∧ w' = W) := lastFair_any n h0 hn
    have h13 : Hid (∀ t W, Src W b t → Calls Try.prog 13 #[P b] W fun e w' => OutS W b (nxt t) (.int .u64 (scat (nxt t) : Int)) e w') := fun t W h => next_any b t W h
    generalize lastF n = last at *
    unfold P at *
    have hn0 : (0 : Int) < (n : Int) := by omega
    go_enter Try.func15, Try.ntmps15
    go_wp2_with (go_at_call 20; refine Calls.mono (h20.out _) ?_; rintro e w1 ⟨rfl, hw1⟩; subst w1)
    go_loopw [6] (fun _ wr => ∃ t : Nat, t < 18446744073709551616 ∧ Hid (Src wr b t) ∧ Hid (Only b w wr) ∧ Hid (belS last t = belS last s)) (fun _ wr => far (nxt (seedOf wr b)))
    case atStart => exact ⟨s, hs, H, Only.refl _ _, rfl⟩
    case round =>
      obtain ⟨t, ht, HS, HO, HB⟩ := hrel
      go_wp2_with fail
      refine Calls.mono (h13.out t _ HS.out) ?_
      rintro e w1 ⟨rfl, hs1, ho1⟩
      have HS1 := hid hs1
      have HO1 := hid ho1
      clear hs1 ho1
      have hz := scat_lt (nxt t)
      have hnt := nxt_lt t
      have HX : Hid ((scat (nxt t) ≤ last → belS last s = nxt t) ∧ (¬ scat (nxt t) ≤ last → belS last (nxt t) = belS last s ∧ far (nxt (nxt t)) < far (nxt t))) := by
        refine ⟨fun h => by rw [← HB.out]; exact belS_yes h, fun h => ⟨by rw [← HB.out]; exact (belS_no h).symm, far_less h⟩⟩
      have HZ : Hid (∀ m, m = n → m ≠ 0 → nxt t = belS last s → bN m s = scat (nxt t) % n ∧ bS m s = nxt t) := fun m hm _ e => by
        rw [(HT.out m hm).2, (HT.out m hm).1, ← e]
        exact ⟨rfl, rfl⟩
      have HF : Hid (∀ W, Src W b (nxt t) → far (nxt (nxt t)) < far (nxt t) → far (nxt (seedOf W b)) < far (nxt (seedOf wr b))) := fun W hW hl => by
        rw [hW.seedOf, HS.out.seedOf]; exact hl
      generalize scat (nxt t) = z at *
      generalize nxt t = u at *
      clear HB HT h13 h20
      rcases Nat.lt_or_ge last z with hl | hl
      · have hc : ((z : Int) ≤ (last : Int)) = False := by simp; omega
        obtain ⟨hx1, hx2⟩ := HX.out.2 (by omega)
        have HX1 := hid hx1
        have HX2 := hid hx2
        clear hx1 hx2 HX HZ
        go_wp2
        go_roundw
        case rel => exact ⟨u, hnt, HS1, HO.out.trans HO1.out, HX1⟩
        case measure => exact HF.out _ HS1.out HX2.out
      · have hc : (z : Int) ≤ (last : Int) := by omega
        have hx1 := HZ.out n rfl (by omega) (HX.out.1 hl).symm
        have HX1 := hid (fun (_ : Nat) => hx1)
        clear hx1 HX HZ HF
        go_wp2
        go_ret
        rw [(HX1.out 0).1, (HX1.out 0).2]
        exact ⟨rfl, HS1.out, HO.out.trans HO1.out⟩
theorem far_lt_of (a b : Nat) (h : far (nxt a) < far (nxt b)) : far (nxt (intOf (.int .u64 (a : Int))).toNat) < far (nxt (intOf (.int .u64 (b : Int))).toNat) := by
  have e : ∀ n : Nat, (intOf (.int .u64 (n : Int))).toNat = n := fun n => by simp [intOf]
  simp only [e]
  exact h
def Bx (n s : Nat) (e : Ending) : Prop := e = .returned (.tuple #[.int .u64 (bN n s : Int), .int .u64 (bS n s : Int)])
set_option maxHeartbeats 1000000 in
theorem refBelow_any (s n : Nat) (hs : s < 18446744073709551616) (hn : n < 18446744073709551616) (w : World) : Calls Try.prog 16 #[.int .u64 (s : Int), .int .u64 (n : Int)] w fun e w' => Bx n s e ∧ w' = w := by
  rcases Nat.eq_zero_or_pos n with rfl | h0
  · go_enter Try.func16, Try.ntmps16
    go_wp2
    go_ret2
    exact ⟨rfl, rfl⟩
  · have HT : Hid (∀ m, m = n → bS m s = belS (lastF n) s ∧ bN m s = scat (belS (lastF n) s) % n) := fun m hm => by
      subst hm
      unfold bN bS
      rw [if_neg (by omega), if_neg (by omega)]
      exact ⟨rfl, rfl⟩
    have h12 : Hid (∀ t W, Calls Try.prog 12 #[.int .u64 ((t : Nat) : Int)] W fun e w' => Nx t e ∧ w' = W) := fun t W => refNext_any t W
    have hn0 : (0 : Int) < (n : Int) := by omega
    have hR : ∃ r : Nat, r ≤ 18446744073709551615 ∧ lastF n = 18446744073709551615 - r ∧ ∃ p : Nat, p + 1 < 18446744073709551616 ∧ (18446744073709551615 : Int) % (n : Int) = (p : Int) ∧ ((p : Int) + 1) % (n : Int) = (r : Int) := by
      have h1 := Nat.mod_lt 18446744073709551616 h0
      have h2 := Nat.mod_lt 18446744073709551615 h0
      refine ⟨18446744073709551616 % n, by omega, rfl, 18446744073709551615 % n, by omega, by simp, ?_⟩
      rw [← rest2]; simp
    obtain ⟨r, hr, hl, p, hp, e1, e2⟩ := hR
    have e3 : (18446744073709551615 : Int) - (r : Int) = ((lastF n : Nat) : Int) := by rw [hl]; omega
    have hll : lastF n < 18446744073709551616 := by rw [hl]; omega
    clear hl
    generalize lastF n = last at *
    have hq : ((n : Int) == 0) = false := by simp; omega
    go_enter Try.func16, Try.ntmps16
    go_wp2
    rw [e2]
    clear e1 e2
    go_loopw [0] (fun sv wr => ∃ t : Nat, t < 18446744073709551616 ∧ sv = .int .u64 (t : Int) ∧ wr = w ∧ Hid (belS last t = belS last s)) (fun sv _ => far (nxt (intOf sv).toNat))
    case atStart => exact ⟨s, hs, rfl, rfl, rfl⟩
    case round =>
      obtain ⟨t, ht, rfl, rfl, HB⟩ := hrel
      go_wp2_with fail
      refine Calls.mono (h12.out t _) ?_
      rintro e w1 ⟨he, rfl⟩
      unfold Nx at he
      subst he
      have hz := scat_lt (nxt t)
      have hnt := nxt_lt t
      have HX : Hid ((scat (nxt t) ≤ last → belS last s = nxt t) ∧ (¬ scat (nxt t) ≤ last → belS last (nxt t) = belS last s ∧ far (nxt (nxt t)) < far (nxt t))) := by
        refine ⟨fun h => by rw [← HB.out]; exact belS_yes h, fun h => ⟨by rw [← HB.out]; exact (belS_no h).symm, far_less h⟩⟩
      have HZ : Hid (∀ m, m = n → m ≠ 0 → nxt t = belS last s → bN m s = scat (nxt t) % n ∧ bS m s = nxt t) := fun m hm _ e => by
        rw [(HT.out m hm).2, (HT.out m hm).1, ← e]
        exact ⟨rfl, rfl⟩
      have HF : Hid (∀ v v', v = (.int .u64 (nxt t : Int) : Value) → v' = (.int .u64 (t : Int) : Value) → far (nxt (nxt t)) < far (nxt t) → far (nxt (intOf v).toNat) < far (nxt (intOf v').toNat)) := fun v v' hv hv' hl => by
        subst hv hv'
        exact far_lt_of _ _ hl
      generalize scat (nxt t) = z at *
      generalize nxt t = u at *
      clear HB HT h12
      rcases Nat.lt_or_ge last z with hl | hl
      · have hc : ((z : Int) ≤ (last : Int)) = False := by simp; omega
        obtain ⟨hx1, hx2⟩ := HX.out.2 (by omega)
        have HX1 := hid hx1
        have HX2 := hid hx2
        clear hx1 hx2 HX HZ
        go_wp2
        go_roundw
        case rel => exact ⟨u, hnt, rfl, trivial, HX1⟩
        case measure => exact HF.out _ _ rfl rfl HX2.out
      · have hc : (z : Int) ≤ (last : Int) := by omega
        have hx1 := HZ.out n rfl (by omega) (HX.out.1 hl).symm
        have HX1 := hid (fun (_ : Nat) => hx1)
        clear hx1 HX HZ HF
        go_wp2
        go_ret2
        unfold Bx
        rw [(HX1.out 0).1, (HX1.out 0).2]
        exact ⟨rfl, rfl⟩
end Go.Proofs.Ytlnbhgpijdjpmaa
