/- What is read is written to the bytes that it was read from. -/
import Derived.Test.YtpiflgbcbhnmpaaWrpl
namespace Go.Proofs.Ytpiflgbcbhnmpaa
open Go.RowKit
theorem join_sev : ∀ (bs : List Nat) (i n m s : Nat), Byt bs → join bs i n = some (m, s) → ∃ r, m = n + r * 2 ^ (7 * i) ∧ (0 < i → r ≠ 0) ∧ bs.take (s - i) = sev r
  | [], i, n, m, s, _, h => by simp [join] at h
  | x :: l, i, n, m, s, hb, h => by
    have hx : x < 256 := hb x (by simp)
    rw [join.eq_2] at h
    split at h
    · cases h
    · split at h
      · next hx128 =>
        have hs := (join_some l _ _ _ _ h).1
        obtain ⟨r, h1, h2, h3⟩ := join_sev l (i + 1) _ m s (fun y hy => hb y (by simp [hy])) h
        have hr := h2 (by omega)
        refine ⟨x % 128 + 128 * r, ?_, fun _ => by omega, ?_⟩
        · rw [h1, Nat.add_mul, show 7 * (i + 1) = 7 * i + 7 by omega, Nat.pow_add]
          have e : r * (2 ^ (7 * i) * 2 ^ 7) = 128 * r * 2 ^ (7 * i) := by
            rw [show (2 : Nat) ^ 7 = 128 by decide, Nat.mul_comm (2 ^ (7 * i)) 128, ← Nat.mul_assoc, Nat.mul_comm r 128]
          rw [e]; omega
        · rw [sev_ge (by omega), show s - i = (s - (i + 1)) + 1 by omega, List.take_succ_cons, h3]
          congr 1
          · omega
          · congr 1; omega
      · split at h
        · cases h
        · next hx128 h0 =>
          simp at h
          obtain ⟨rfl, rfl⟩ := h
          refine ⟨x, by rw [Nat.mod_eq_of_lt (by omega)], fun hi => by omega, ?_⟩
          rw [sev_lt (by omega), show i + 1 - i = 1 by omega]
          rfl
theorem pN_ok {most : Nat} {s : S2} (hf : Fit s) (h : (pN most s).2.2 = false) : s.2 = false ∧ s.1 = sev (pN most s).1 ++ (pN most s).2.1 := by
  unfold pN pNum at *
  split at h
  · cases h
  · next hc =>
    rw [if_neg hc]
    refine ⟨h, ?_⟩
    show s.1 = sev (joinN s.1) ++ s.1.drop (joinS s.1)
    rcases hj : join s.1 0 0 with _ | ⟨m, k⟩
    · exfalso; apply hc; left; unfold joinS; rw [hj]; rfl
    · obtain ⟨e1, e2, _⟩ := joinS_of hj
      obtain ⟨r, h1, _, h3⟩ := join_sev s.1 0 0 m k hf.1 hj
      rw [e1, e2]
      have : r = m := by simp at h1; omega
      subst this
      rw [Nat.sub_zero] at h3
      rw [← h3, List.take_append_drop]
theorem pD_ok {s : S2} (h : (pD s).2.2 = false) : s.2 = false ∧ s.1 = (pD s).1 ++ (pD s).2.1 := by
  unfold pD pDig at *
  split at h
  · cases h
  · next hc =>
    rw [if_neg hc]
    exact ⟨h, (List.take_append_drop 32 s.1).symm⟩
/-- Reads what by writes. -/
def Rd {α : Type} (f : S2 → α × S2) (by' : α → List Nat) (P : α → Prop) : Prop := ∀ s, Fit s → (f s).2.2 = false → s.2 = false ∧ s.1 = by' (f s).1 ++ (f s).2.1 ∧ P (f s).1
theorem pMany_ok {α : Type} {f : S2 → α × S2} {by' : α → List Nat} {P : α → Prop} (hR : Rd f by' P) (hF : ∀ s, Fit s → Fit (f s).2) : ∀ (n : Nat) (s : S2), Fit s → (pMany f n s).2.2 = false → s.2 = false ∧ s.1 = (pMany f n s).1.flatMap by' ++ (pMany f n s).2.1 ∧ ∀ x ∈ (pMany f n s).1, P x
  | 0, s, _, h => ⟨h, by simp [pMany], fun x hx => by simp [pMany] at hx⟩
  | n + 1, s, hf, h => by
    obtain ⟨h1, h2, h3⟩ := pMany_ok hR hF n (f s).2 (hF s hf) h
    obtain ⟨h4, h5, h6⟩ := hR s hf h1
    refine ⟨h4, ?_, fun x hx => ?_⟩
    · show s.1 = ((f s).1 :: (pMany f n (f s).2).1).flatMap by' ++ (pMany f n (f s).2).2.1
      rw [List.flatMap_cons, List.append_assoc, ← h2]
      exact h5
    · simp only [pMany, List.mem_cons] at hx
      rcases hx with rfl | hx
      · exact h6
      · exact h3 x hx
theorem pList_ok {α : Type} {f : S2 → α × S2} {by' : α → List Nat} {P : α → Prop} (hR : Rd f by' P) (hF : ∀ s, Fit s → Fit (f s).2) (most : Nat) (s : S2) (hf : Fit s) (h : (pList most f s).2.2 = false) : s.2 = false ∧ s.1 = (sev (pList most f s).1.length ++ (pList most f s).1.flatMap by') ++ (pList most f s).2.1 ∧ ∀ x ∈ (pList most f s).1, P x := by
  obtain ⟨h1, h2, h3⟩ := pMany_ok hR hF (pN most s).1 (pN most s).2 (hf.num most) h
  obtain ⟨h4, h5⟩ := pN_ok hf h1
  refine ⟨h4, ?_, h3⟩
  have hl : (pList most f s).1.length = (pN most s).1 := pMany_length f _ _
  rw [hl, List.append_assoc]
  exact h5.trans (congrArg (sev (pN most s).1 ++ ·) h2)
theorem pCmd_rd : Rd pCmd C6.bytes (fun _ => True) := by
  intro s hf h
  unfold pCmd at *
  obtain ⟨k, s1, hk⟩ : ∃ a b, pN 6 s = (a, b) := ⟨_, _, rfl⟩
  have F1 : Fit s1 := by have := hf.num 6; rw [hk] at this; exact this
  have P1 : s1.2 = false → s.2 = false ∧ s.1 = sev k ++ s1.1 := fun h9 => by have := pN_ok (most := 6) hf; rw [hk] at this; exact this h9
  simp only [hk] at h ⊢
  have step : ∀ (c : Bool) (most : Nat) (s0 : S2), Fit s0 → ∃ (a : Nat) (s' : S2), (if c = true then pN most s0 else (0, s0)) = (a, s') ∧ Fit s' ∧ (s'.2 = false → s0.2 = false ∧ s0.1 = (if c = true then sev a else []) ++ s'.1) := fun c most s0 h0 => by
    cases c
    · exact ⟨0, s0, rfl, h0, fun h9 => ⟨h9, rfl⟩⟩
    · exact ⟨_, _, rfl, h0.num most, fun h9 => pN_ok h0 h9⟩
  obtain ⟨u, s2, hu, F2, P2⟩ := step (nU (k : Int)) 2147483647 s1 F1
  simp only [hu] at h ⊢
  obtain ⟨t, s3, ht, F3, P3⟩ := step (nT (k : Int)) 2147483647 s2 F2
  simp only [ht] at h ⊢
  obtain ⟨hh, s4, hh4, F4, P4⟩ := step (nW (k : Int)) 4 s3 F3
  simp only [hh4] at h ⊢
  obtain ⟨x, s5, hx, F5, P5⟩ := step (nC (k : Int)) 19 s4 F4
  simp only [hx] at h ⊢
  obtain ⟨y, s6, hy, F6, P6⟩ := step (nC (k : Int)) 19 s5 F5
  simp only [hy] at h ⊢
  obtain ⟨a6, b6⟩ := P6 h
  obtain ⟨a5, b5⟩ := P5 a6
  obtain ⟨a4, b4⟩ := P4 a5
  obtain ⟨a3, b3⟩ := P3 a4
  obtain ⟨a2, b2⟩ := P2 a3
  obtain ⟨a1, b1⟩ := P1 a2
  refine ⟨a1, ?_, trivial⟩
  unfold C6.bytes cmdB
  simp only [Int.toNat_natCast]
  rw [b1, b2, b3, b4, b5, b6]
  cases nC (k : Int) <;> simp
theorem pSeal_rd : Rd pSeal Sd.bytes (fun d => d.ok = true) := by
  intro s hf h
  unfold pSeal pSeal0 at *
  obtain ⟨m, s1, hm⟩ : ∃ a b, pN 9223372036854775807 s = (a, b) := ⟨_, _, rfl⟩
  obtain ⟨pl, s2, hpl⟩ : ∃ a b, pN 3 s1 = (a, b) := ⟨_, _, rfl⟩
  obtain ⟨tn, s3, htn⟩ : ∃ a b, pN 59 s2 = (a, b) := ⟨_, _, rfl⟩
  obtain ⟨em, s4, hem⟩ : ∃ a b, pN 1 s3 = (a, b) := ⟨_, _, rfl⟩
  obtain ⟨cs, s5, hcs⟩ : ∃ a b, pList 5 pCmd s4 = (a, b) := ⟨_, _, rfl⟩
  obtain ⟨tg, s6, htg⟩ : ∃ a b, pD s5 = (a, b) := ⟨_, _, rfl⟩
  have F1 : Fit s1 := by have := hf.num 9223372036854775807; rw [hm] at this; exact this
  have F2 : Fit s2 := by have := F1.num 3; rw [hpl] at this; exact this
  have F3 : Fit s3 := by have := F2.num 59; rw [htn] at this; exact this
  have F4 : Fit s4 := by have := F3.num 1; rw [hem] at this; exact this
  have P1 : s1.2 = false → s.2 = false ∧ s.1 = sev m ++ s1.1 := fun h9 => by have h8 := pN_ok (most := 9223372036854775807) hf; rw [hm] at h8; exact h8 h9
  have P2 : s2.2 = false → s1.2 = false ∧ s1.1 = sev pl ++ s2.1 := fun h9 => by have h8 := pN_ok (most := 3) F1; rw [hpl] at h8; exact h8 h9
  have P3 : s3.2 = false → s2.2 = false ∧ s2.1 = sev tn ++ s3.1 := fun h9 => by have h8 := pN_ok (most := 59) F2; rw [htn] at h8; exact h8 h9
  have P4 : s4.2 = false → s3.2 = false ∧ s3.1 = sev em ++ s4.1 := fun h9 => by have h8 := pN_ok (most := 1) F3; rw [hem] at h8; exact h8 h9
  have P5 : s5.2 = false → s4.2 = false ∧ s4.1 = (sev cs.length ++ cs.flatMap C6.bytes) ++ s5.1 := fun h9 => by
    have h8 := pList_ok pCmd_rd (fun _ h => pCmd_fit h) 5 s4 F4
    rw [hcs] at h8
    obtain ⟨q1, q2, _⟩ := h8 h9
    exact ⟨q1, q2⟩
  have P6 : s6.2 = false → s5.2 = false ∧ s5.1 = tg ++ s6.1 := fun h9 => by have h8 := pD_ok (s := s5); rw [htg] at h8; exact h8 h9
  have he1 : em ≤ 1 := by have := pNum_le (most := 1) (bs := s3.1) (bad := s3.2); rw [show pNum 1 s3.1 s3.2 = pN 1 s3 from rfl, hem] at this; exact this
  simp only [hm, hpl, htn, hem, hcs, htg] at h ⊢
  split at h
  · next hok =>
    rw [if_pos hok]
    obtain ⟨a6, b6⟩ := P6 h
    obtain ⟨a5, b5⟩ := P5 a6
    obtain ⟨a4, b4⟩ := P4 a5
    obtain ⟨a3, b3⟩ := P3 a4
    obtain ⟨a2, b2⟩ := P2 a3
    obtain ⟨a1, b1⟩ := P1 a2
    refine ⟨a1, ?_, hok⟩
    have hev : (if ((em : Int) == 1) = true then 1 else 0) = em := by
      obtain rfl | rfl : em = 0 ∨ em = 1 := by omega
      · rfl
      · rfl
    unfold Sd.bytes Sd.body cmdsB
    simp only [Int.toNat_natCast]
    rw [hev, b1, b2, b3, b4, b5, b6]
    simp
  · cases h
theorem pBlk_rd : Rd pBlk Bk.bytes (fun k => k.ok = true) := by
  intro s hf h
  unfold pBlk pBlk0 at *
  obtain ⟨t, s1, ht⟩ : ∃ a b, pN 59 s = (a, b) := ⟨_, _, rfl⟩
  obtain ⟨pa, s2, hpa⟩ : ∃ a b, pD s1 = (a, b) := ⟨_, _, rfl⟩
  obtain ⟨pb, s3, hpb⟩ : ∃ a b, pD s2 = (a, b) := ⟨_, _, rfl⟩
  obtain ⟨pc, s4, hpc⟩ : ∃ a b, pD s3 = (a, b) := ⟨_, _, rfl⟩
  obtain ⟨ds, s5, hds⟩ : ∃ a b, pList 4 pSeal s4 = (a, b) := ⟨_, _, rfl⟩
  have F1 : Fit s1 := by have := hf.num 59; rw [ht] at this; exact this
  have F2 : Fit s2 := by have := F1.dig; rw [hpa] at this; exact this
  have F3 : Fit s3 := by have := F2.dig; rw [hpb] at this; exact this
  have F4 : Fit s4 := by have := F3.dig; rw [hpc] at this; exact this
  have P1 : s1.2 = false → s.2 = false ∧ s.1 = sev t ++ s1.1 := fun h9 => by have h8 := pN_ok (most := 59) hf; rw [ht] at h8; exact h8 h9
  have P2 : s2.2 = false → s1.2 = false ∧ s1.1 = pa ++ s2.1 := fun h9 => by have h8 := pD_ok (s := s1); rw [hpa] at h8; exact h8 h9
  have P3 : s3.2 = false → s2.2 = false ∧ s2.1 = pb ++ s3.1 := fun h9 => by have h8 := pD_ok (s := s2); rw [hpb] at h8; exact h8 h9
  have P4 : s4.2 = false → s3.2 = false ∧ s3.1 = pc ++ s4.1 := fun h9 => by have h8 := pD_ok (s := s3); rw [hpc] at h8; exact h8 h9
  have P5 : s5.2 = false → s4.2 = false ∧ s4.1 = (sev ds.length ++ ds.flatMap Sd.bytes) ++ s5.1 := fun h9 => by
    have h8 := pList_ok pSeal_rd (fun _ h => pSeal_fit h) 4 s4 F4
    rw [hds] at h8
    obtain ⟨q1, q2, _⟩ := h8 h9
    exact ⟨q1, q2⟩
  simp only [ht, hpa, hpb, hpc, hds] at h ⊢
  split at h
  · next hok =>
    rw [if_pos hok]
    obtain ⟨a5, b5⟩ := P5 h
    obtain ⟨a4, b4⟩ := P4 a5
    obtain ⟨a3, b3⟩ := P3 a4
    obtain ⟨a2, b2⟩ := P2 a3
    obtain ⟨a1, b1⟩ := P1 a2
    refine ⟨a1, ?_, hok⟩
    unfold Bk.bytes sdsB
    simp only [Int.toNat_natCast]
    rw [b1, b2, b3, b4, b5]
    simp
  · cases h
theorem pRes_rd : Rd pRes Rs.bytes (fun r => r.ok = true) := by
  intro s hf h
  unfold pRes at *
  obtain ⟨m, s1, hm⟩ : ∃ a b, pN 9223372036854775807 s = (a, b) := ⟨_, _, rfl⟩
  obtain ⟨t, s2, ht⟩ : ∃ a b, pN 60 s1 = (a, b) := ⟨_, _, rfl⟩
  obtain ⟨n, s3, hn⟩ : ∃ a b, pN 4 s2 = (a, b) := ⟨_, _, rfl⟩
  obtain ⟨pa, s4, hpa⟩ : ∃ a b, pD s3 = (a, b) := ⟨_, _, rfl⟩
  obtain ⟨pb, s5, hpb⟩ : ∃ a b, pD s4 = (a, b) := ⟨_, _, rfl⟩
  have F1 : Fit s1 := by have := hf.num 9223372036854775807; rw [hm] at this; exact this
  have F2 : Fit s2 := by have := F1.num 60; rw [ht] at this; exact this
  have P1 : s1.2 = false → s.2 = false ∧ s.1 = sev m ++ s1.1 := fun h9 => by have h8 := pN_ok (most := 9223372036854775807) hf; rw [hm] at h8; exact h8 h9
  have P2 : s2.2 = false → s1.2 = false ∧ s1.1 = sev t ++ s2.1 := fun h9 => by have h8 := pN_ok (most := 60) F1; rw [ht] at h8; exact h8 h9
  have P3 : s3.2 = false → s2.2 = false ∧ s2.1 = sev n ++ s3.1 := fun h9 => by have h8 := pN_ok (most := 4) F2; rw [hn] at h8; exact h8 h9
  have P4 : s4.2 = false → s3.2 = false ∧ s3.1 = pa ++ s4.1 := fun h9 => by have h8 := pD_ok (s := s3); rw [hpa] at h8; exact h8 h9
  have P5 : s5.2 = false → s4.2 = false ∧ s4.1 = pb ++ s5.1 := fun h9 => by have h8 := pD_ok (s := s4); rw [hpb] at h8; exact h8 h9
  have m1 : m ≤ 9223372036854775807 := by have := pNum_le (most := 9223372036854775807) (bs := s.1) (bad := s.2); rw [show pNum 9223372036854775807 s.1 s.2 = pN 9223372036854775807 s from rfl, hm] at this; exact this
  have t1 : t ≤ 60 := by have := pNum_le (most := 60) (bs := s1.1) (bad := s1.2); rw [show pNum 60 s1.1 s1.2 = pN 60 s1 from rfl, ht] at this; exact this
  have n1 : n ≤ 4 := by have := pNum_le (most := 4) (bs := s2.1) (bad := s2.2); rw [show pNum 4 s2.1 s2.2 = pN 4 s2 from rfl, hn] at this; exact this
  simp only [hm, ht, hn, hpa, hpb] at h ⊢
  obtain ⟨a5, b5⟩ := P5 h
  obtain ⟨a4, b4⟩ := P4 a5
  obtain ⟨a3, b3⟩ := P3 a4
  obtain ⟨a2, b2⟩ := P2 a3
  obtain ⟨a1, b1⟩ := P1 a2
  refine ⟨a1, ?_, ?_⟩
  · unfold Rs.bytes Rs.claim
    simp only [Int.toNat_natCast]
    rw [show ((n : Int) - 1 + 1).toNat = n by omega, b1, b2, b3, b4, b5]
    simp
  · simp only [Rs.ok, rng, Bool.and_eq_true, decide_eq_true_eq]
    omega
theorem pRep_ok (s : S2) (hf : Fit s) (h : (pRep s).2.2 = false) : s.1 = bksB (pRep s).1 ++ (pRep s).2.1 ∧ bksOk (pRep s).1 = true := by
  obtain ⟨_, h2, h3⟩ := pList_ok pBlk_rd (fun _ h => pBlk_fit h) 60 s hf h
  refine ⟨h2, ?_⟩
  have hl : (pRep s).1.length = (pN 60 s).1 := pMany_length pBlk _ _
  have hle : (pN 60 s).1 ≤ 60 := pNum_le
  simp only [bksOk, Bool.and_eq_true, decide_eq_true_eq, List.all_eq_true]
  exact ⟨by omega, h3⟩
theorem whE_ok {n : Nat} {s : S2} (h : whE n s = 0) : s.2 = false ∧ s.1 = [] := by
  unfold whE at h
  split at h
  · cases h
  · split at h
    · cases h
    · next hc =>
      refine ⟨?_, List.eq_nil_of_length_eq_zero (by omega)⟩
      cases hb : s.2
      · rfl
      · exact absurd (Or.inl hb) hc
theorem back66 (bs : List Nat) (hf : Fit (bs, false)) (h : whE bs.length (pSeal (bs, false)).2 = 0) : sldL (wh66 bs) = bs ∧ sldE (wh66 bs) = 0 := by
  obtain ⟨h1, h2⟩ := whE_ok h
  obtain ⟨_, h4, h5⟩ := pSeal_rd (bs, false) hf h1
  unfold wh66
  rw [if_pos h]
  unfold sldL sldE
  rw [if_pos h5, if_pos h5]
  rw [h2, List.append_nil] at h4
  exact ⟨h4.symm, rfl⟩
theorem back70 (bs : List Nat) (hf : Fit (bs, false)) (h : whE bs.length (pBlk (bs, false)).2 = 0) : blkLst (wh70 bs) = bs ∧ blkErr (wh70 bs) = 0 := by
  obtain ⟨h1, h2⟩ := whE_ok h
  obtain ⟨_, h4, h5⟩ := pBlk_rd (bs, false) hf h1
  unfold wh70
  rw [if_pos h]
  unfold blkLst blkErr
  rw [if_pos h5, if_pos h5]
  rw [h2, List.append_nil] at h4
  exact ⟨h4.symm, rfl⟩
theorem back73 (bs : List Nat) (hf : Fit (bs, false)) (h : whE bs.length (pRes (bs, false)).2 = 0) : resL (wh73 bs) = bs ∧ resE (wh73 bs) = 0 := by
  obtain ⟨h1, h2⟩ := whE_ok h
  obtain ⟨_, h4, h5⟩ := pRes_rd (bs, false) hf h1
  unfold wh73
  rw [if_pos h]
  unfold resL resE
  rw [if_pos h5, if_pos h5]
  rw [h2, List.append_nil] at h4
  exact ⟨h4.symm, rfl⟩
theorem back77 (bs : List Nat) (hf : Fit (bs, false)) (h : whE bs.length (pRep (bs, false)).2 = 0) : repL (wh77 bs) = bs ∧ repE (wh77 bs) = 0 := by
  obtain ⟨h1, h2⟩ := whE_ok h
  obtain ⟨h4, h5⟩ := pRep_ok (bs, false) hf h1
  unfold wh77
  rw [if_pos h]
  unfold repL repE
  rw [if_pos h5, if_pos h5]
  rw [h2, List.append_nil] at h4
  exact ⟨h4.symm, rfl⟩
end Go.Proofs.Ytpiflgbcbhnmpaa
