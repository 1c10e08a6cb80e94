/- The walk of the law GridBack. -/
import Derived.Test.YthinldcblbgdnaaDoorReadsW
import Derived.Test.YthinldcblbgdnaaDoorBak
namespace Go.Proofs.YthinldcblbgdnaaDoor
open Go.RowKit
set_option maxRecDepth 20000 in
set_option maxHeartbeats 8000000 in
theorem gridBack_many (s : ByteArray) (m : Mp) (v : Value) (w : World) (hm : MapAt w v m) (hx : Max w) (hf : (decide (m.ts.length ≤ 1000) && decide (m.os.length ≤ 1000)) = false) : Calls Tryd.prog 5 #[v, .string s] w fun e w' => e = .returned (.bool true) ∧ Below w.heap.size w w' := by
  have h8 : Hid (∀ W, Max W → Calls Tryd.prog 8 #[] W fun e w' => Out W (.bool true) e w') := awake_any
  obtain ⟨p, c, q, d, rfl, -, -⟩ := hm
  obtain ⟨a, b, ts, os⟩ := m
  simp only at hf ⊢
  generalize ts.length = M at *
  generalize os.length = N at *
  have h9 : Hid (∀ W, Calls Tryd.prog 9 #[.agg #[.int .i64 a, .int .i64 b, .slice p M c, .slice q N d]] W fun e w' => Out W (.bool false) e w') := fun W => by
    have := few_any a b p q M N c d W
    rwa [hf] at this
  have HX := hid hx
  clear hf hx
  go_enter Tryd.func5, Tryd.ntmps5
  go_upto_region 1 with (fail)
  obtain ⟨W, hW⟩ : ∃ W, W = w.alloc (.cells #[Value.int .i64 a, .int .i64 b, .slice p M c, .slice q N d] 24) := ⟨_, rfl⟩
  obtain ⟨B, hB⟩ : ∃ B, B = w.heap.size := ⟨_, rfl⟩
  rw [← hW, ← hB]
  obtain ⟨hk, hbe⟩ := map_box w a b _ _ W B hW hB
  have HBE := hid hbe
  have HK := hid hk
  clear hW hB hk hbe
  go_wp2_with fail
  refine Calls.mono (h8.out _ (Below.max (HBE.out W (Below.refl _ _)) HX.out)) ?_
  rintro e w1 ⟨rfl, hb1⟩
  have HB1 := hid hb1
  obtain ⟨b0, b1, b2, b3⟩ := HK.out w1 hb1
  clear hb1
  go_wp2_with fail
  refine Calls.mono (h9.out _) ?_
  rintro e w2 ⟨rfl, hb2⟩
  have HB2 := hid (HB1.out.trans (hb2.mono HB1.out.size))
  clear hb2 b0 b1 b2 b3
  go_wp2_with fail
  refine Calls.mono (h8.out _ (Below.max (HBE.out w2 HB2.out) HX.out)) ?_
  rintro e w3 ⟨rfl, hb3⟩
  have HB3 := hid (HB2.out.trans (hb3.mono HB2.out.size))
  clear hb3
  go_wp2
  go_ret
  exact ⟨rfl, HBE.out _ HB3.out⟩
set_option maxRecDepth 100000 in
set_option maxHeartbeats 16000000 in
theorem gridBack_walk (s : ByteArray) (m : Mp) (v : Value) (w : World) (hm : MapAt w v m) (hx : Max w) (hf : (decide (m.ts.length ≤ 1000) && decide (m.os.length ≤ 1000)) = true) : Calls Tryd.prog 5 #[v, .string s] w fun e w' => e = .returned (.bool true) ∧ Below w.heap.size w w' := by
  have h8 : Hid (∀ W, Max W → Calls Tryd.prog 8 #[] W fun e w' => Out W (.bool true) e w') := awake_any
  have h10 : Hid (∀ W, Max W → Calls Tryd.prog 10 #[.string s] W fun e w' => OutRead W s e w') := fun W h => read_any s W h
  have h10b : Hid (∀ W, Max W → Calls Tryd.prog 10 #[.string (textS m)] W fun e w' => OutRead W (textS m) e w') := fun W h => read_any (textS m) W h
  have h12 : Hid (∀ W v, MapAt W v m → Calls Tryd.prog 12 #[v] W fun e w' => OutText W m e w') := fun W v h => text_any m v W h
  have h12b : Hid (∀ W v, MapAt W v (readM s) → Calls Tryd.prog 12 #[v] W fun e w' => OutText W (readM s) e w') := fun W v h => text_any (readM s) v W h
  have h15 : Hid (∀ W v, MapAt W v (readM s) → Calls Tryd.prog 15 #[v] W fun e w' => Out W (.bool (formed (readM s))) e w') := fun W v h => formed_any (readM s) v W h
  have hl : m.ts.length ≤ 1000000 ∧ m.os.length ≤ 1000000 := by
    simp only [Bool.and_eq_true, decide_eq_true_eq] at hf
    omega
  have h14 : Hid (∀ W v v', MapAt W v m → MapAt W v' m → Calls Tryd.prog 14 #[v, v'] W fun e w' => Out W (.bool true) e w') := fun W v v' h h' => same_any m v v' W h h' hl
  have HTR : Hid (textE m = 0 → readE (textS m) = 0 ∧ readM (textS m) = m) := fun h => told_read (by unfold textE at h; split at h; assumption; omega)
  have HRT : Hid (readE s = 0 → formed (readM s) = true ∧ textE (readM s) = 0 ∧ textS (readM s) = s) := fun h => read_told h
  have HRB : Hid (readE s ≠ 0 → formed (readM s) = false) := fun h => read_bad h
  have HM := hid (fun W (h : Below w.heap.size w W) => hm.below h)
  obtain ⟨p, c, q, d, rfl, -, -⟩ := hm
  clear hl
  unfold OutRead at h10 h10b
  unfold OutText at h12 h12b
  unfold Out at h14 h15
  generalize readE s = E at *
  generalize readM s = RM at *
  generalize textE RM = TE2 at *
  generalize textS RM = TS2 at *
  generalize formed RM = F at *
  generalize textE m = TE at *
  generalize textS m = TS at *
  generalize readE TS = E2 at *
  generalize hRM2 : readM TS = RM2 at *
  have h9 : Hid (∀ W, Calls Tryd.prog 9 #[.agg #[.int .i64 m.W, .int .i64 m.H, .slice p m.ts.length c, .slice q m.os.length d]] W fun e w' => Out W (.bool true) e w') := fun W => by
    have := few_any m.W m.H p q m.ts.length m.os.length c d W
    rwa [hf] at this
  obtain ⟨a, ha⟩ : ∃ z, z = m.W := ⟨_, rfl⟩
  obtain ⟨b, hb⟩ : ∃ z, z = m.H := ⟨_, rfl⟩
  obtain ⟨M, hM⟩ : ∃ z, z = m.ts.length := ⟨_, rfl⟩
  obtain ⟨N, hN⟩ : ∃ z, z = m.os.length := ⟨_, rfl⟩
  rw [← ha, ← hb, ← hM, ← hN] at h9 HM ⊢
  have HEQ := hid (fun (_ : Nat) => And.intro ha (And.intro hb (And.intro hM hN)))
  clear ha hb hM hN hRM2
  have HX := hid hx
  clear hf hx
  go_enter Tryd.func5, Tryd.ntmps5
  go_upto_region 1 with (fail)
  obtain ⟨W, hW⟩ : ∃ W, W = w.alloc (.cells #[Value.int .i64 a, .int .i64 b, .slice p M c, .slice q N d] 24) := ⟨_, rfl⟩
  obtain ⟨B, hB⟩ : ∃ B, B = w.heap.size := ⟨_, rfl⟩
  rw [← hW, ← hB]
  obtain ⟨hk, hbe⟩ := map_box w a b _ _ W B hW hB
  have HBE := hid hbe
  have HK := hid hk
  clear hW hB hk hbe
  go_wp2_with fail
  refine Calls.mono (h8.out _ (Below.max (HBE.out W (Below.refl _ _)) HX.out)) ?_
  rintro e w1 ⟨rfl, hb1⟩
  have HB1 := hid hb1
  obtain ⟨b0, b1, b2, b3⟩ := HK.out w1 hb1
  clear hb1
  go_wp2_with fail
  refine Calls.mono (h9.out _) ?_
  rintro e w2 ⟨rfl, hb2⟩
  have HB2 := hid (HB1.out.trans (hb2.mono HB1.out.size))
  clear hb2 b0 b1 b2 b3 HB1 h8 h9
  obtain ⟨b0, b1, b2, b3⟩ := HK.out w2 HB2.out
  go_wp2_with fail
  refine Calls.mono (h12.out w2 _ (HM.out _ (HBE.out _ HB2.out))) ?_
  rintro e w3 ⟨rfl, hb3⟩
  have HB3 := hid (HB2.out.trans (hb3.mono HB2.out.size))
  clear hb3 b0 b1 b2 b3 HB2 h12
  -- what is told is read again
  by_cases hTE : TE = 0
  case' pos =>
    obtain ⟨hE2, hRM2⟩ := HTR.out hTE
    subst hTE
    subst hE2
    subst hRM2
    clear HTR
    go_wp2_with fail
    refine Calls.mono (h10b.out w3 (Below.max (HBE.out w3 HB3.out) HX.out)) ?_
    rintro e w4 ⟨v4, rfl, hm4, hb4⟩
    have HB4 := hid (HB3.out.trans (hb4.mono HB3.out.size))
    have HM4 := hid hm4
    obtain ⟨p4, c4, q4, d4, rfl, -, -⟩ := hm4
    clear hb4 HB3 h10b
    rw [← (HEQ.out 0).1, ← (HEQ.out 0).2.1, ← (HEQ.out 0).2.2.1, ← (HEQ.out 0).2.2.2] at HM4 ⊢
    obtain ⟨W5, hW5⟩ : ∃ x, x = w4.alloc (.cells #[Value.int .i64 a, .int .i64 b, .slice p4 M c4, .slice q4 N d4] 24) := ⟨_, rfl⟩
    obtain ⟨B5, hB5⟩ : ∃ x, x = w4.heap.size := ⟨_, rfl⟩
    obtain ⟨hk5, hbe5⟩ := map_box w4 a b (.slice p4 M c4) (.slice q4 N d4) W5 B5 hW5 hB5
    have HB5 := hid (HB4.out.trans ((hbe5 W5 (Below.refl _ _)).mono HB4.out.size))
    have HM5 := hid (HM4.out.below (hbe5 W5 (Below.refl _ _)))
    obtain ⟨n0, n1, n2, n3⟩ := hk5 W5 (Below.refl _ _)
    clear hk5 hbe5 HM4 HB4
    go_upto_region 6 with fail
    rw [← hW5, ← hB5]
    clear hW5 hB5
    obtain ⟨b0, b1, b2, b3⟩ := HK.out W5 HB5.out
    go_wp2_with fail
    refine Calls.mono (h14.out W5 _ _ (HM.out _ (HBE.out _ HB5.out)) HM5.out) ?_
    rintro e w6 ⟨rfl, hb6⟩
    have HB6 := hid (HB5.out.trans (hb6.mono HB5.out.size))
    clear hb6 b0 b1 b2 b3 n0 n1 n2 n3 HB5 HM5
    go_upto_region 8 with fail
    generalize w6 = wz at *
    have HBZ := HB6
    clear HB6
  case' neg =>
    have hTE0 : (TE == 0) = false := by simpa using hTE
    clear HTR
    go_upto_region 8 with fail
    generalize w3 = wz at *
    have HBZ := HB3
    clear HB3
  all_goals (
    go_wp2_with fail
    refine Calls.mono (h10.out wz (Below.max (HBE.out wz HBZ.out) HX.out)) ?_
    rintro e w7 ⟨v7, rfl, hm7, hb7⟩
    have HB7 := hid (HBZ.out.trans (hb7.mono HBZ.out.size))
    have HM7 := hid hm7
    obtain ⟨p7, c7, q7, d7, rfl, -, -⟩ := hm7
    clear hb7 HBZ h10
    obtain ⟨L1, hL1⟩ : ∃ z, z = RM.ts.length := ⟨_, rfl⟩
    obtain ⟨L2, hL2⟩ : ∃ z, z = RM.os.length := ⟨_, rfl⟩
    obtain ⟨RW, hRW⟩ : ∃ z, z = RM.W := ⟨_, rfl⟩
    obtain ⟨RH, hRH⟩ : ∃ z, z = RM.H := ⟨_, rfl⟩
    rw [← hL1, ← hL2, ← hRW, ← hRH] at HM7 ⊢
    clear hL1 hL2 hRW hRH
    obtain ⟨W8, hW8⟩ : ∃ x, x = w7.alloc (.cells #[Value.int .i64 RW, .int .i64 RH, .slice p7 L1 c7, .slice q7 L2 d7] 24) := ⟨_, rfl⟩
    obtain ⟨B8, hB8⟩ : ∃ x, x = w7.heap.size := ⟨_, rfl⟩
    obtain ⟨hk8, hbe8⟩ := map_box w7 RW RH (.slice p7 L1 c7) (.slice q7 L2 d7) W8 B8 hW8 hB8
    have HB8 := hid (HB7.out.trans ((hbe8 W8 (Below.refl _ _)).mono HB7.out.size))
    have HM8 := hid (fun V (h : Below W8.heap.size W8 V) => (HM7.out.below (hbe8 W8 (Below.refl _ _))).below h)
    have HK8 := hid hk8
    clear hk8 hbe8 HM7 HB7
    go_upto_region 9 with fail
    rw [← hW8, ← hB8]
    clear hW8 hB8
    obtain ⟨n0, n1, n2, n3⟩ := HK8.out W8 (Below.refl _ _)
    by_cases hE : E = 0
    · obtain ⟨hF, hT, hS⟩ := HRT.out hE
      subst hE hF hT hS
      go_wp2_with fail
      refine Calls.mono (h12b.out W8 _ (HM8.out _ (Below.refl _ _))) ?_
      rintro e w9 ⟨rfl, hb9⟩
      have HB9 := hid hb9
      clear n0 n1 n2 n3 hb9
      obtain ⟨n0, n1, n2, n3⟩ := HK8.out w9 HB9.out
      go_wp2_with fail
      refine Calls.mono (h15.out w9 _ (HM8.out _ HB9.out)) ?_
      rintro e w10 ⟨rfl, hb10⟩
      have HB10 := hid (HB9.out.trans (hb10.mono HB9.out.size))
      clear hb10 n0 n1 n2 n3
      go_wp2
      go_ret
      exact ⟨rfl, HBE.out _ (HB8.out.trans (HB10.out.mono HB8.out.size))⟩
    · have hF := HRB.out hE
      have hE0 : (E == 0) = false := by simpa using hE
      subst hF
      go_wp2_with fail
      refine Calls.mono (h15.out W8 _ (HM8.out _ (Below.refl _ _))) ?_
      rintro e w9 ⟨rfl, hb9⟩
      have HB9 := hid hb9
      clear n0 n1 n2 n3 hb9
      go_wp2
      go_ret
      exact ⟨rfl, HBE.out _ (HB8.out.trans (HB9.out.mono HB8.out.size))⟩)
end Go.Proofs.YthinldcblbgdnaaDoor
