/- The reference's reader: sealed 68. -/
import Derived.Test.YtpiflgbcbhnmpaaRfc
import Derived.Test.YtpiflgbcbhnmpaaRsl
import Derived.Deep.RegionLaw
import Derived.Test.YtpiflgbcbhnmpaaPlan
import Derived.Test.YtpiflgbcbhnmpaaSameS
namespace Go.Proofs.Ytpiflgbcbhnmpaa
open Go.RowKit
attribute [local go_sem ↓] zv47
theorem RfAt.swap {w : World} {rb : Nat} {s s' : S2} (h : RfAt w rb s) (hs : s.2 = true) (hs' : s'.2 = true) : RfAt w rb s' := by
  obtain ⟨v, bs, h1, h2, h3, h4, _⟩ := h
  rw [hs] at h1
  exact ⟨v, bs, by rw [hs']; exact h1, h2, h3, h4, fun h => by rw [hs'] at h; cases h⟩
theorem pN_stk {s : S2} (hg : Gd s) (most : Nat) (h : s.2 = true) : (pN most s).2.2 = true := by rw [pN_bad most hg h]
theorem pD_stk {s : S2} (hg : Gd s) (h : s.2 = true) : (pD s).2.2 = true := by rw [pD_bad hg h]
theorem pCmd_stk {s : S2} (hg : Gd s) (h : s.2 = true) : (pCmd s).2.2 = true := by
  unfold pCmd
  have h1 := pN_gd hg 6
  have k1 := pN_stk hg 6 h
  generalize pN 6 s = k at *
  simp only
  have h2 : Gd (if nU (k.1 : Int) then pN 2147483647 k.2 else (0, k.2)).2 ∧ (if nU (k.1 : Int) then pN 2147483647 k.2 else (0, k.2)).2.2 = true := by split; exact ⟨pN_gd h1 _, pN_stk h1 _ k1⟩; exact ⟨h1, k1⟩
  generalize (if nU (k.1 : Int) then pN 2147483647 k.2 else (0, k.2)) = u at *
  have h3 : Gd (if nT (k.1 : Int) then pN 2147483647 u.2 else (0, u.2)).2 ∧ (if nT (k.1 : Int) then pN 2147483647 u.2 else (0, u.2)).2.2 = true := by split; exact ⟨pN_gd h2.1 _, pN_stk h2.1 _ h2.2⟩; exact h2
  generalize (if nT (k.1 : Int) then pN 2147483647 u.2 else (0, u.2)) = t at *
  have h4 : Gd (if nW (k.1 : Int) then pN 4 t.2 else (0, t.2)).2 ∧ (if nW (k.1 : Int) then pN 4 t.2 else (0, t.2)).2.2 = true := by split; exact ⟨pN_gd h3.1 _, pN_stk h3.1 _ h3.2⟩; exact h3
  generalize (if nW (k.1 : Int) then pN 4 t.2 else (0, t.2)) = hh at *
  have h5 : Gd (if nC (k.1 : Int) then pN 19 hh.2 else (0, hh.2)).2 ∧ (if nC (k.1 : Int) then pN 19 hh.2 else (0, hh.2)).2.2 = true := by split; exact ⟨pN_gd h4.1 _, pN_stk h4.1 _ h4.2⟩; exact h4
  generalize (if nC (k.1 : Int) then pN 19 hh.2 else (0, hh.2)) = x at *
  split
  · exact pN_stk h5.1 _ h5.2
  · exact h5.2
theorem pMany_gd {α : Type} {f : S2 → α × S2} (hf : ∀ s, Gd s → Gd (f s).2) : ∀ (n : Nat) (s : S2), Gd s → Gd (pMany f n s).2
  | 0, _, h => h
  | n + 1, s, h => pMany_gd hf n _ (hf s h)
theorem pMany_stk {α : Type} {f : S2 → α × S2} (hf : ∀ s, Gd s → Gd (f s).2) (hs : ∀ s, Gd s → s.2 = true → (f s).2.2 = true) : ∀ (n : Nat) (s : S2), Gd s → s.2 = true → (pMany f n s).2.2 = true
  | 0, _, _, h => h
  | n + 1, s, hg, h => pMany_stk hf hs n _ (hf s hg) (hs s hg h)
theorem pSeal0_both {s : S2} (hg : Gd s) : Gd (pSeal0 s).2 ∧ (s.2 = true → (pSeal0 s).2.2 = true) := by
  unfold pSeal0
  obtain ⟨m, s1, hm⟩ : ∃ a b, pN 9223372036854775807 s = (a, b) := ⟨_, _, rfl⟩
  obtain ⟨pl, s2, hpl⟩ : ∃ a b, pN 3 s1 = (a, b) := ⟨_, _, rfl⟩
  obtain ⟨tn, s3, htn⟩ : ∃ a b, pN 59 s2 = (a, b) := ⟨_, _, rfl⟩
  obtain ⟨em, s4, hem⟩ : ∃ a b, pN 1 s3 = (a, b) := ⟨_, _, rfl⟩
  obtain ⟨n, s5, hn⟩ : ∃ a b, pN 5 s4 = (a, b) := ⟨_, _, rfl⟩
  have F1 : Gd s1 ∧ (s.2 = true → s1.2 = true) := by have h1 := pN_gd hg 9223372036854775807; have h2 := pN_stk hg 9223372036854775807; rw [hm] at h1 h2; exact ⟨h1, h2⟩
  have F2 : Gd s2 ∧ (s1.2 = true → s2.2 = true) := by have h1 := pN_gd F1.1 3; have h2 := pN_stk F1.1 3; rw [hpl] at h1 h2; exact ⟨h1, h2⟩
  have F3 : Gd s3 ∧ (s2.2 = true → s3.2 = true) := by have h1 := pN_gd F2.1 59; have h2 := pN_stk F2.1 59; rw [htn] at h1 h2; exact ⟨h1, h2⟩
  have F4 : Gd s4 ∧ (s3.2 = true → s4.2 = true) := by have h1 := pN_gd F3.1 1; have h2 := pN_stk F3.1 1; rw [hem] at h1 h2; exact ⟨h1, h2⟩
  have F5 : Gd s5 ∧ (s4.2 = true → s5.2 = true) := by have h1 := pN_gd F4.1 5; have h2 := pN_stk F4.1 5; rw [hn] at h1 h2; exact ⟨h1, h2⟩
  have F6 := pMany_gd (fun _ h => pCmd_gd h) n s5 F5.1
  have F7 := pMany_stk (fun _ h => pCmd_gd h) (fun _ h h' => pCmd_stk h h') n s5 F5.1
  have hL : pList 5 pCmd s4 = pMany pCmd n s5 := by unfold pList; rw [hn]
  simp only [hm, hpl, htn, hem, hL]
  exact ⟨pD_gd F6, fun h => pD_stk F6 (F7 (F5.2 (F4.2 (F3.2 (F2.2 (F1.2 h))))))⟩
theorem pSeal_gd {s : S2} (hg : Gd s) : Gd (pSeal s).2 := by
  unfold pSeal
  simp only
  split
  · exact (pSeal0_both hg).1
  · exact fun _ => rfl
theorem pSeal_stk {s : S2} (hg : Gd s) (h : s.2 = true) : (pSeal s).2.2 = true := by
  unfold pSeal
  simp only
  split
  · exact (pSeal0_both hg).2 h
  · rfl
theorem RfAt.stay {w w' : World} {rb : Nat} {s : S2} (h : RfAt w rb s) (hs : ∀ k, k < w.heap.size → (k ≤ rb ∨ ∃ cur fz, w.heap[k]? = some (.cells cur 5 fz)) → w'.heap[k]? = w.heap[k]?) : RfAt w' rb s := by
  obtain ⟨v, bs, h1, h2, h3⟩ := h
  refine ⟨v, bs, ?_, h2.stay fun k hk hp => hs k hk ?_, h3⟩
  · have := h1.lt
    unfold Blk at *
    rw [hs rb this (Or.inl (Nat.le_refl _))]; exact h1
  · rcases hp with h4 | ⟨h4, h5⟩
    · exact Or.inl (by omega)
    · exact Or.inr h5
theorem Sr.grown {w0 w w' : World} {rb B : Nat} {ty : TypeId} {z l : List Value} {s : S2} {r : Option Nat} (h : Sr w0 w rb B ty z l s) (hg : w.grownBy w' r) (hr : ∀ k, r = some k → B + 1 < k ∧ ∃ cur fz ty', w.heap[k]? = some (.cells cur ty' fz) ∧ ty' ≠ 5) : Sr w0 w' rb B ty z l s := by
  have hb : ∀ k, k < w.heap.size → k ≤ B + 1 → w'.heap[k]? = w.heap[k]? := fun k hk hB => hg.block k hk (fun e => by have := (hr k e.symm).1; omega)
  have := h.lo
  have := h.rlt
  refine ⟨?_, ?_, h.rd.stay fun k hk hp => ?_, h.only.grown hg (fun k hk => by have := (hr k hk).1; omega), h.lo, h.rlt, h.ne⟩
  · have h1 := h.res.lt
    have h2 := h.res
    unfold Blk at *
    rw [hb B h1 (by omega)]; exact h2
  · have h1 := h.own.lt
    have h2 := h.own
    unfold Blk at *
    rw [hb (B + 1) h1 (Nat.le_refl _)]; exact h2
  · rcases hp with h4 | ⟨cur, fz, h5⟩
    · exact hb k hk (by omega)
    · refine hg.block k hk (fun e => ?_)
      obtain ⟨_, cur', fz', ty', h6, h7⟩ := hr k e.symm
      rw [h6] at h5
      simp at h5
      exact h7 h5.2.1
theorem RfAt.flag {w : World} {rb : Nat} {s s' : S2} (h : RfAt w rb s) (hs : s'.2 = false → s = s') : RfAt (w.setCell ⟨rb, 1, none⟩ (.bool s'.2)) rb s' := by
  obtain ⟨v, bs, h1, h2, h3, h4, h5⟩ := h
  refine ⟨v, bs, h1.set 1 _, h2.only ((Only.refl rb w).setCell 1 _), h3, h4, fun hb => ?_⟩
  have := hs hb
  subst this
  exact h5 hb
theorem Sr.flag {w0 w : World} {rb B : Nat} {ty : TypeId} {z l : List Value} {s s' : S2} (h : Sr w0 w rb B ty z l s) (hs : s'.2 = false → s = s') : Sr w0 (w.setCell ⟨rb, 1, none⟩ (.bool s'.2)) rb B ty z l s' :=
  h.call ((Only.refl rb w).setCell 1 _) (h.rd.flag hs)
/-- What sealed answers: where all is well, the sealed commands. -/
def SfOk (w : World) (rb : Nat) (d : Sd) (s : S2) (e : Ending) (w' : World) : Prop := ∃ es, e = .returned (.agg es.toArray) ∧ (s.2 = false → SdAt w' w.heap.size d es) ∧ es.length = 37 ∧ (∀ v ∈ es, v.oneCell' = true) ∧ RfAt w' rb s ∧ Only rb w w'
set_option maxRecDepth 100000 in
set_option maxHeartbeats 8000000 in
theorem sealed68 (rb : Nat) (s : S2) (hg : Gd s) (w : World) (h : RfAt w rb s) :
    Calls Try.prog 68 #[.pointer (some ⟨rb, 0, none⟩)] w fun e w' => SfOk w rb (pSeal s).1 (pSeal s).2 e w' := by
  have hS := hid (Sr.start (z := z47) (ty := 47) h (by decide))
  have hrw := h.lt
  clear h
  unfold SfOk pSeal pSeal0
  obtain ⟨m, s1, hk1⟩ : ∃ a b, pN 9223372036854775807 s = (a, b) := ⟨_, _, rfl⟩
  have K1 : Hid (∀ l W, Sr w W rb w.heap.size 47 z47 l s → Calls Try.prog 75 #[.pointer (some ⟨rb, 0, none⟩), .int .u64 9223372036854775808] W fun e w' => e = .returned (.int .u64 (m : Int)) ∧ Sr w w' rb w.heap.size 47 z47 l s1 ∧ Only rb W w') := fun l W h => by
    have h9 := num_sr h hg 9223372036854775807 (by omega) 9223372036854775808 (by rfl)
    rw [hk1] at h9; exact h9
  have G1 : Hid (Gd s1) := by have := pN_gd hg 9223372036854775807; rw [hk1] at this; exact hid this
  have hl1 : (m : Int) ≤ 9223372036854775807 := by have := pN_le 9223372036854775807 s; rw [hk1] at this; simp only at this; omega
  obtain ⟨pl, s2, hk2⟩ : ∃ a b, pN 3 s1 = (a, b) := ⟨_, _, rfl⟩
  have K2 : Hid (∀ l W, Sr w W rb w.heap.size 47 z47 l s1 → Calls Try.prog 75 #[.pointer (some ⟨rb, 0, none⟩), .int .u64 4] W fun e w' => e = .returned (.int .u64 (pl : Int)) ∧ Sr w w' rb w.heap.size 47 z47 l s2 ∧ Only rb W w') := fun l W h => by
    have h9 := num_sr h G1.out 3 (by omega) 4 (by rfl)
    rw [hk2] at h9; exact h9
  have G2 : Hid (Gd s2) := by have := pN_gd G1.out 3; rw [hk2] at this; exact hid this
  have hl2 : (pl : Int) ≤ 3 := by have := pN_le 3 s1; rw [hk2] at this; simp only at this; omega
  obtain ⟨tn, s3, hk3⟩ : ∃ a b, pN 59 s2 = (a, b) := ⟨_, _, rfl⟩
  have K3 : Hid (∀ l W, Sr w W rb w.heap.size 47 z47 l s2 → Calls Try.prog 75 #[.pointer (some ⟨rb, 0, none⟩), .int .u64 60] W fun e w' => e = .returned (.int .u64 (tn : Int)) ∧ Sr w w' rb w.heap.size 47 z47 l s3 ∧ Only rb W w') := fun l W h => by
    have h9 := num_sr h G2.out 59 (by omega) 60 (by rfl)
    rw [hk3] at h9; exact h9
  have G3 : Hid (Gd s3) := by have := pN_gd G2.out 59; rw [hk3] at this; exact hid this
  have hl3 : (tn : Int) ≤ 59 := by have := pN_le 59 s2; rw [hk3] at this; simp only at this; omega
  obtain ⟨em, s4, hk4⟩ : ∃ a b, pN 1 s3 = (a, b) := ⟨_, _, rfl⟩
  have K4 : Hid (∀ l W, Sr w W rb w.heap.size 47 z47 l s3 → Calls Try.prog 75 #[.pointer (some ⟨rb, 0, none⟩), .int .u64 2] W fun e w' => e = .returned (.int .u64 (em : Int)) ∧ Sr w w' rb w.heap.size 47 z47 l s4 ∧ Only rb W w') := fun l W h => by
    have h9 := num_sr h G3.out 1 (by omega) 2 (by rfl)
    rw [hk4] at h9; exact h9
  have G4 : Hid (Gd s4) := by have := pN_gd G3.out 1; rw [hk4] at this; exact hid this
  have hl4 : (em : Int) ≤ 1 := by have := pN_le 1 s3; rw [hk4] at this; simp only at this; omega
  obtain ⟨N, s5, hk5⟩ : ∃ a b, pN 5 s4 = (a, b) := ⟨_, _, rfl⟩
  have K5 : Hid (∀ l W, Sr w W rb w.heap.size 47 z47 l s4 → Calls Try.prog 75 #[.pointer (some ⟨rb, 0, none⟩), .int .u64 6] W fun e w' => e = .returned (.int .u64 (N : Int)) ∧ Sr w w' rb w.heap.size 47 z47 l s5 ∧ Only rb W w') := fun l W h => by
    have h9 := num_sr h G4.out 5 (by omega) 6 (by rfl)
    rw [hk5] at h9; exact h9
  have G5 : Hid (Gd s5) := by have := pN_gd G4.out 5; rw [hk5] at this; exact hid this
  have hl5 : (N : Int) ≤ 5 := by have := pN_le 5 s4; rw [hk5] at this; simp only at this; omega
  have hkl : pList 5 pCmd s4 = pMany pCmd N s5 := by unfold pList; rw [hk5]
  obtain ⟨L, hL⟩ : ∃ L, L = pMany pCmd N s5 := ⟨_, rfl⟩
  have HL0 : Hid (L = ([] ++ (pMany pCmd (N - 0) s5).1, (pMany pCmd (N - 0) s5).2)) := hid hL
  have hLl : L.1.length = N := by rw [hL]; exact pMany_length _ _ _
  have HGL : Hid (Gd L.2) := by rw [hL]; exact hid (pMany_gd (fun _ h => pCmd_gd h) _ _ G5.out)
  obtain ⟨tg, s6, htg⟩ : ∃ a b, pD L.2 = (a, b) := ⟨_, _, rfl⟩
  have htl : tg.length = 32 := by have := pD_32 L.2; rw [htg] at this; exact this
  have HG6 : Hid (Gd s6) := by have := pD_gd HGL.out; rw [htg] at this; exact hid this
  have HST6 : Hid (L.2.2 = true → s6.2 = true) := fun hb => by have := pD_stk HGL.out hb; rw [htg] at this; exact this
  simp only [hk1, hk2, hk3, hk4, hkl, ← hL, htg]
  obtain ⟨d7, hd7⟩ : ∃ d7 : Sd, d7 = ⟨m, pl, tn, ((em : Int) == 1), L.1, tg⟩ := ⟨_, rfl⟩
  rw [← hd7]
  obtain ⟨s7, hs7⟩ : ∃ s7 : S2, s7 = (if d7.ok = true then s6 else ([], true)) := ⟨_, rfl⟩
  rw [← hs7]
  have HD7 := hid (fun (_ : Nat) => hd7)
  have HS7E := hid (fun (_ : Nat) => hs7)
  clear hd7 hs7
  have hN5 : N ≤ 5 := by omega
  have K7 : Hid (∀ (d : Sd) (p : Option Addr) (N cap : Nat) (W : World), d.m < 18446744073709551616 → N = d.cs.length → N < 1000 → CmdsAt W (.slice p N cap) d.cs → Calls Try.prog 53 #[.agg (d.cells (.slice p N cap)).toArray] W fun e w' => e = .returned (.bool d.ok) ∧ Below W.heap.size W w') := fun d p N cap W h1 h2 h3 h4 => rsealed53 d h1 p N cap W h2 h4 (by omega)
  have HC : Hid (∀ (W : World) (s : S2), RfAt W rb s → Gd s → Calls Try.prog 97 #[.pointer (some ⟨rb, 0, none⟩)] W fun e w' => RfOk W rb (pCmd s).1.val (pCmd s).2 e w') := fun W s h hg => command97 rb s hg W h
  have HD : Hid (∀ (l : List Value) (W : World) (s : S2), Sr w W rb w.heap.size 47 z47 l s → Gd s → pD s = (tg, s6) → Calls Try.prog 76 #[.pointer (some ⟨rb, 0, none⟩)] W fun e w' => e = .returned (.agg (tg.map By).toArray) ∧ Sr w w' rb w.heap.size 47 z47 l s6 ∧ Only rb W w') := fun l W s h hg hp => by
    have h9 := dig_sr h hg
    rw [hp] at h9; exact h9
  have HTG := hid (fun (_ : Nat) => htg)
  have HTL := hid (fun (_ : Nat) => htl)
  have HLl := hid (fun (_ : Nat) => hLl)
  have HG5 := G5
  clear hk1 hk2 hk3 hk4 hk5 hkl hL htg htl hLl hg G1 G2 G3 G4 G5
  go_enter Try.func68, Try.ntmps68
  go_wp2_with fail
  refine Calls.mono (K1.out _ _ hS.out) ?_
  rintro e w1 ⟨rfl, T1, O1⟩
  have c1 : w1.cell? ⟨w.heap.size + 1, 0, none⟩ = some (.int .u64 0) := T1.own.cell 0
  have f1 := T1.own.frozen 0
  have S1 : Hid (Sr w (w1.setCell ⟨w.heap.size + 1, 0, none⟩ (.int .u64 (m : Int))) rb w.heap.size 47 z47 (Value.int .u64 (m : Int) :: .int .i64 0 :: .int .i64 0 :: .bool false :: .slice none 0 0 :: zB 32) s1) := T1.set 0 _
  clear T1 O1 hS K1
  go_wp2_with fail
  refine Calls.mono (K2.out _ _ S1.out) ?_
  rintro e w2 ⟨rfl, T2, O2⟩
  have c2 : w2.cell? ⟨w.heap.size + 1, 1, none⟩ = some (.int .i64 0) := T2.own.cell 1
  have f2 := T2.own.frozen 1
  have S2 : Hid (Sr w (w2.setCell ⟨w.heap.size + 1, 1, none⟩ (.int .i64 (pl : Int))) rb w.heap.size 47 z47 (Value.int .u64 (m : Int) :: .int .i64 (pl : Int) :: .int .i64 0 :: .bool false :: .slice none 0 0 :: zB 32) s2) := T2.set 1 _
  clear T2 O2 S1 K2 c1 f1
  go_wp2_with fail
  refine Calls.mono (K3.out _ _ S2.out) ?_
  rintro e w3 ⟨rfl, T3, O3⟩
  have c3 : w3.cell? ⟨w.heap.size + 1, 2, none⟩ = some (.int .i64 0) := T3.own.cell 2
  have f3 := T3.own.frozen 2
  have S3 : Hid (Sr w (w3.setCell ⟨w.heap.size + 1, 2, none⟩ (.int .i64 (tn : Int))) rb w.heap.size 47 z47 (Value.int .u64 (m : Int) :: .int .i64 (pl : Int) :: .int .i64 (tn : Int) :: .bool false :: .slice none 0 0 :: zB 32) s3) := T3.set 2 _
  clear T3 O3 S2 K3 c2 f2
  go_wp2_with fail
  refine Calls.mono (K4.out _ _ S3.out) ?_
  rintro e w4 ⟨rfl, T4, O4⟩
  have c4 : w4.cell? ⟨w.heap.size + 1, 3, none⟩ = some (.bool false) := T4.own.cell 3
  have f4 := T4.own.frozen 3
  have S4 : Hid (Sr w (w4.setCell ⟨w.heap.size + 1, 3, none⟩ (.bool ((em : Int) == 1))) rb w.heap.size 47 z47 (Value.int .u64 (m : Int) :: .int .i64 (pl : Int) :: .int .i64 (tn : Int) :: .bool ((em : Int) == 1) :: .slice none 0 0 :: zB 32) s4) := T4.set 3 _
  clear T4 O4 S3 K4 c3 f3
  go_wp2_with fail
  refine Calls.mono (K5.out _ _ S4.out) ?_
  rintro e w5 ⟨rfl, T5, O5⟩
  have S5 := hid T5
  have HB5 : Hid (w.heap.size + 2 ≤ w5.heap.size) := hid (by have := T5.own.lt; omega)
  clear T5 O5 S4 c4 f4 K5
  go_wp2_with fail
  go_loopw [5] (fun iv wr => ∃ (i : Nat) (p : Option Addr) (cap : Nat) (cs : List C6) (s : S2), iv = .int .i64 (i : Int) ∧ i ≤ N ∧ Hid (cs.length = i) ∧ Hid (L = (cs ++ (pMany pCmd (N - i) s).1, (pMany pCmd (N - i) s).2)) ∧ Hid (OwnC wr w5.heap.size (.slice p i cap) cs) ∧ Hid (Gd s) ∧ Hid (Sr w wr rb w.heap.size 47 z47 (Value.int .u64 (m : Int) :: .int .i64 (pl : Int) :: .int .i64 (tn : Int) :: .bool ((em : Int) == 1) :: .slice p i cap :: zB 32) s) ∧ Hid (w5.heap.size ≤ wr.heap.size)) (fun iv _ => N - (intOf iv).toNat)
  case atStart => exact ⟨0, none, 0, [], s5, rfl, by omega, rfl, HL0, ⟨rfl, Or.inl ⟨rfl, rfl⟩⟩, HG5, S5, Nat.le_refl _⟩
  case round =>
    clear HL0 HG5 S5
    obtain ⟨i, p, cap, cs, s, rfl, hi, hcs, hL, hOw, hG, hSr, hWs⟩ := hrel
    obtain ⟨vr, br, hKr, hAr, -⟩ := id hSr.out.rd
    have d1 : wr.cell? ⟨rb, 1, none⟩ = some (.bool s.2) := hKr.cell 1
    have c4 : wr.cell? ⟨w.heap.size + 1, 4, none⟩ = some (.slice p i cap) := hSr.out.own.cell 4
    have f4 := hSr.out.own.frozen 4
    clear hKr hAr
    by_cases hgo : i < N ∧ s.2 = false
    · obtain ⟨hlt, hs2⟩ := hgo
      rw [hs2] at d1
      have e1 : (i : Int) < (N : Int) := by omega
      have hcall := hid (HC.out wr s hSr.out.rd hG.out)
      have hcall' := hid (HC.out wr.drew s (hSr.out.rd.below (Below.drewN (Below.refl _ _) 1)) hG.out)
      have HL2 : Hid (L = ((cs ++ [(pCmd s).1]) ++ (pMany pCmd (N - (i + 1)) (pCmd s).2).1, (pMany pCmd (N - (i + 1)) (pCmd s).2).2)) := by
        have h0 := hL.out
        rw [show N - i = (N - (i + 1)) + 1 by omega] at h0
        show _ = _
        rw [h0]
        simp [pMany]
      have HG2 := hid (pCmd_gd hG.out)
      clear hL hG
      generalize pCmd s = c at *
      obtain ⟨⟨k, u, t, h, x, y⟩, s2⟩ := c
      simp only at HL2 HG2 hcall hcall'
      unfold RfOk C6.val cmd at hcall'
      go_upto_region 10 with fail
      have hsz := hSr.out.own.lt
      have hrb0 := hSr.out.rlt
      have hi6 : i < 1000000 := by omega
      have hrb5 : rb < w5.heap.size := by have := HB5.out; omega
      have hone := hid (one6 k u t h x y)
      have hOwC := hOw.out
      unfold OwnC at hOwC
      rw [hcs.out] at hOwC
      have HOC := hid hOwC
      clear hcall hOwC
      go_region_law (first
        | (rw [if_pos (by rfl)]; refine turn_of_list (ops := #[]) rfl ?_; (with_reducible refine wpL_appendG 45 52 6 48 (.agg #[.int .i64 0, .int .i64 0, .int .i64 0, .int .i64 0, .int .i64 0, .int .i64 0]) w5.heap.size (.slice p i cap) i (cs.flatMap C6.cells) [Value.int .i64 k, .int .i64 u, .int .i64 t, .int .i64 h, .int .i64 x, .int .i64 y] w6.heap.size Try.underlying45 info52 rfl (by omega) (by omega) ?_ ?_ HO7.out rfl HQ7.out hone.out hi6 HB7.out ?_); (rfl); (rfl); (intro pm cm w8 hO8 hg8); (refine ⟨rfl, ?_⟩); (have hbk := ownsRow_block HO7.out); (have HS8 := hid (HS7.out.grown hg8 (fun k hk => by obtain ⟨a1, a2, cur, a3⟩ := hbk k hk; exact ⟨by have := HB5.out; omega, cur, _, _, a3, by decide⟩))); (have c48 : w8.cell? ⟨w.heap.size + 1, 4, none⟩ = some (.slice p i cap) := HS8.out.own.cell 4); (have f48 := HS8.out.own.frozen 4); (have HO8 := hid hO8); (have HW8 : Hid (w5.heap.size ≤ w8.heap.size) := hid (Nat.le_trans HB7.out hg8.size)); clear hbk hO8 hg8)
        | (rw [if_pos (by rfl)]; go_simp; refine Calls.mono hcall'.out ?_; rintro e w6 ⟨rfl, hR6, hO6⟩; have hS6 := hid (hSr.out.call (Only.trans (Only.of_below (Below.drewN (Below.refl wr.heap.size wr) 1)) hO6) hR6); have c46 : w6.cell? ⟨w.heap.size + 1, 4, none⟩ = some (.slice p i cap) := hS6.out.own.cell 4; have hO7' := Only.trans (Only.of_below (hb := rb) (Below.drewN (Below.refl wr.heap.size wr) 1)) hO6; have hal : Below w6.heap.size w6 (w6.alloc (.cells #[Value.int .i64 k, .int .i64 u, .int .i64 t, .int .i64 h, .int .i64 x, .int .i64 y] 52)) := (Below.refl _ _).alloc (Nat.le_refl _) _; have hO61 := ownsRow_only HOC.out hO7' hrb5; have HO7 := hid (ownsRow_stay (w' := (w6.alloc (.cells #[Value.int .i64 k, .int .i64 u, .int .i64 t, .int .i64 h, .int .i64 x, .int .i64 y] 52))) hO61 (fun g hg => hal.block g (ownsRow_block hO61 g hg).2.1)); have HQ7 := hid (show ∀ j v, ([Value.int .i64 k, .int .i64 u, .int .i64 t, .int .i64 h, .int .i64 x, .int .i64 y] : List Value)[j]? = some v → (w6.alloc (.cells #[Value.int .i64 k, .int .i64 u, .int .i64 t, .int .i64 h, .int .i64 x, .int .i64 y] 52)).cell? ⟨w6.heap.size, j, none⟩ = some v from fun j v hv => by rw [(Blk.new w6 [Value.int .i64 k, .int .i64 u, .int .i64 t, .int .i64 h, .int .i64 x, .int .i64 y] 52).cell]; exact hv); have HB7 := hid (show w5.heap.size ≤ (w6.alloc (.cells #[Value.int .i64 k, .int .i64 u, .int .i64 t, .int .i64 h, .int .i64 x, .int .i64 y] 52)).heap.size from by have h1 := hO7'.size; have h2 := hal.size; have h3 := hWs.out; omega); have HS7 := hid (hS6.out.below hal); have c47 : (w6.alloc (.cells #[Value.int .i64 k, .int .i64 u, .int .i64 t, .int .i64 h, .int .i64 x, .int .i64 y] 52)).cell? ⟨w.heap.size + 1, 4, none⟩ = some (.slice p i cap) := HS7.out.own.cell 4; clear hal hO61 hO7' hR6 hO6 hS6))
      all_goals
        have HS9 : Hid (Sr w (w8.setCell ⟨w.heap.size + 1, 4, none⟩ (.slice pm (i + 1) cm)) rb w.heap.size 47 z47 (Value.int .u64 (m : Int) :: .int .i64 (pl : Int) :: .int .i64 (tn : Int) :: .bool ((em : Int) == 1) :: .slice pm (i + 1) cm :: zB 32) s2) := HS8.out.set 4 _
        have HO9 : Hid (OwnC (w8.setCell ⟨w.heap.size + 1, 4, none⟩ (.slice pm (i + 1) cm)) w5.heap.size (.slice pm (i + 1) cm) (cs ++ [⟨k, u, t, h, x, y⟩])) := by
          have h1 : OwnC w8 w5.heap.size (.slice pm (i + 1) cm) (cs ++ [⟨k, u, t, h, x, y⟩]) := by
            show World.ownsRow _ _ _ _ _ _ _
            rw [List.length_append, hcs.out, List.flatMap_append]
            exact HO8.out
          exact h1.setLow (by have := HB5.out; omega) 4 _
        have HW9 : Hid (w5.heap.size ≤ (w8.setCell ⟨w.heap.size + 1, 4, none⟩ (.slice pm (i + 1) cm)).heap.size) := by have := HW8.out; exact hid (by simpa using this)
        have HCL : Hid ((cs ++ [(⟨k, u, t, h, x, y⟩ : C6)]).length = i + 1) := by show _ = _; rw [List.length_append, hcs.out]; rfl
        clear HS8 HO8 HS7 HO7 HQ7 HB7 c46 c47 c48 f48 hcall' HC
        go_wp2
        exact ⟨⟨i + 1, pm, cm, cs ++ [⟨k, u, t, h, x, y⟩], s2, by go_num, by omega, HCL, HL2, HO9, HG2, HS9, HW9⟩, by simp [intOf]; omega⟩
    · have hex : (i < N ∧ s.2 = true) ∨ i = N := by
        rcases Nat.lt_or_ge i N with h | h
        · refine Or.inl ⟨h, ?_⟩
          cases hs : s.2
          · exact absurd ⟨h, hs⟩ hgo
          · rfl
        · exact Or.inr (by omega)
      have hLs : (L.2.2 = false → cs = L.1 ∧ s = L.2) ∧ pD s = (tg, s6) := by
        rcases hex with ⟨h1, h2⟩ | rfl
        · have hb : L.2.2 = true := by
            rw [hL.out]
            exact pMany_stk (fun _ h => pCmd_gd h) (fun _ h h' => pCmd_stk h h') _ _ hG.out h2
          refine ⟨(fun h => by rw [hb] at h; cases h), ?_⟩
          rw [← HTG.out 0, pD_bad hG.out h2, pD_bad HGL.out hb]
        · have hLL : L = (cs, s) := by rw [hL.out, Nat.sub_self]; simp [pMany]
          refine ⟨fun _ => by rw [hLL]; exact ⟨rfl, rfl⟩, ?_⟩
          rw [← HTG.out 0, hLL]
      have hcall := hid (HD.out _ wr s hSr.out hG.out hLs.2)
      have HLS := hid hLs.1
      have hi1000 : i < 1000 := by omega
      have HI := hid hcs
      have hrb5 : rb < w5.heap.size := by have := HB5.out; omega
      have HHR := hid (fun (_ : Nat) => hrb5)
      -- the cells of the answer
      obtain ⟨d, hd⟩ : ∃ d : Sd, d = ⟨m, pl, tn, ((em : Int) == 1), cs, tg⟩ := ⟨_, rfl⟩
      have HDD := hid (fun (_ : Nat) => hd)
      obtain ⟨E, hE⟩ : ∃ E, E = d.cells (.slice p i cap) := ⟨_, rfl⟩
      have hEl : E.length = 37 := by rw [hE, hd]; simp [Sd.cells, HTL.out 0]
      have HEL := hid (fun (_ : Nat) => hEl)
      have HEE := hid (fun (_ : Nat) => hE)
      have honeE : Hid (∀ v ∈ E, v.oneCell' = true) := by
        rw [hE]; intro v hv
        simp only [Sd.cells, List.mem_cons] at hv
        rcases hv with rfl | rfl | rfl | rfl | rfl | hv
        · rfl
        · rfl
        · rfl
        · rfl
        · rfl
        · exact mapBy_one _ v hv
      have hi47 : (Try.prog.info? 47).map (·.size) = some E.length := by rw [hEl]; exact size47
      have htm : (tg.map By).length = 32 := by rw [List.length_map, HTL.out 0]
      have hi36 : (Try.prog.info? 36).map (·.size) = some (tg.map By).length := by rw [htm]; exact size36
      have hone := hid (mapBy_one tg)
      have HSTORE : Hid (∀ w6, Sr w w6 rb w.heap.size 47 z47 (Value.int .u64 (m : Int) :: .int .i64 (pl : Int) :: .int .i64 (tn : Int) :: .bool ((em : Int) == 1) :: .slice p i cap :: zB 32) s6 → w6.there (w.heap.size + 1) 5 (tg.map By).length ∧ Sr w (w6.setCells (w.heap.size + 1) 5 (tg.map By)) rb w.heap.size 47 z47 E s6) := fun w6 T6 => by
        refine ⟨T6.own.there 5 (tg.map By).length (by rw [htm]; simp [zB_length]), ?_⟩
        have h9 := T6.sets 5 (tg.map By) (by rw [htm]; simp [zB_length])
        rw [show over (Value.int .u64 (m : Int) :: .int .i64 (pl : Int) :: .int .i64 (tn : Int) :: .bool ((em : Int) == 1) :: .slice p i cap :: zB 32) 5 (tg.map By) = E by rw [hE, hd]; simp [over, Sd.cells, htm, zB_length]] at h9
        exact h9
      have HK7 : Hid (∀ W, CmdsAt W (.slice p i cap) cs → Calls Try.prog 53 #[.agg E.toArray] W fun e w' => e = .returned (.bool d.ok) ∧ Below W.heap.size W w') := fun W h => by
        have h9 := K7.out d p i cap W (by rw [hd]; show m < _; omega) (by rw [hd]; exact hcs.out.symm) hi1000 (by rw [hd]; exact h)
        rwa [← hE] at h9
      have HFIN : Hid (∀ W s', Sr w W rb w.heap.size 47 z47 E s' → OwnC W w5.heap.size (.slice p i cap) cs → W.rangeAt (w.heap.size + 1) 0 E ∧ W.there w.heap.size 0 E.length ∧ Blk (W.setCells w.heap.size 0 E) w.heap.size E 47 ∧ OwnC (W.setCells w.heap.size 0 E) w.heap.size (.slice p i cap) cs ∧ RfAt (W.setCells w.heap.size 0 E) rb s' ∧ Only rb w (W.setCells w.heap.size 0 E)) := fun W s' hS hO => by
        have hz : z47.length = E.length := by rw [HEL.out 0]; simp [z47, zB_length]
        obtain ⟨g1, g2, g3⟩ := hS.fin hz
        have := HB5.out
        exact ⟨hS.own.range, hS.res.there 0 _ (by omega), g1, (hO.setsLow (by omega) 0 E).mono (by omega), g2, g3⟩
      have HOW := hid (fun w6 (ho : Only rb wr w6) => hOw.out.only ho hrb5)
      have hz5 : w.heap.size + 1 < w5.heap.size := by have := HB5.out; omega
      have HZ5 := hid (fun (_ : Nat) => hz5)
      clear hd hE hEl htm hSr hG hOw hL hLs hgo c4 f4 HC HD HB5 hWs hcs hz5
      generalize tg.map By = TG at *
      rcases hex with ⟨hlt, hs2⟩ | rfl
      case' inl =>
        rw [hs2] at d1
        have e1 : (i : Int) < (N : Int) := by omega
      case' inr =>
        have e1 : ((i : Int) < (i : Int)) = False := by simp
      all_goals
        go_wp2_with fail
        refine Calls.mono hcall.out ?_
        rintro e w6 ⟨rfl, T6, O6⟩
        obtain ⟨hth, hS6⟩ := HSTORE.out w6 T6
        have HS6 := hid hS6
        have HO6 := hid ((HOW.out w6 O6).setsLow (HZ5.out 0) 5 TG)
        clear T6 O6 hS6 hcall HSTORE HOW d1
        go_upto_region 12 with (first
          | ((with_reducible refine wpL_store 36 (w.heap.size + 1) 5 TG ?_ ?_ hth hi36 hone.out ?_); (rfl); (rfl); (simp only [Act.put])))
        clear hth
        generalize w6.setCells (w.heap.size + 1) 5 TG = W6 at *
        obtain ⟨vr, br, hKr, hAr, -⟩ := id HS6.out.rd
        have d1 : W6.cell? ⟨rb, 1, none⟩ = some (.bool s6.2) := hKr.cell 1
        have f1 := hKr.frozen 1
        clear hKr hAr
        cases hb6 : s6.2
        · rw [hb6] at d1
          have hL2 : L.2.2 = false := by
            cases h : L.2.2
            · rfl
            · have := HST6.out h; rw [hb6] at this; cases this
          obtain ⟨hc1, hc2⟩ := HLS.out hL2
          have hcall2 := HK7.out W6 HO6.out.at
          have hr6 := HS6.out.own.range
          have HCS := hid (fun (_ : Nat) => hc1)
          have HB6 := hid (fun (_ : Nat) => hb6)
          clear HK7 hc1 hc2 hL2 hb6
          go_wp2_with (first
            | ((with_reducible refine wpL_loadG 47 (w.heap.size + 1) 0 E _ ?_ ?_ hr6 Try.underlying47 ?_ hi47 ?_); (first | rfl | go_simp); (rfl); (rfl); (simp only [Act.put, List.setIfInBounds_toArray, List.set_cons_zero, List.set_cons_succ])))
          refine Calls.mono hcall2 ?_
          rintro e w7 ⟨rfl, hb7⟩
          have HS7 := hid (HS6.out.below hb7)
          have HO7 := hid (HO6.out.below hb7)
          clear hb7 HS6 HO6 hr6 d1 f1 hcall2
          obtain ⟨vr, br, hKr, hAr, -⟩ := id HS7.out.rd
          have d1 : w7.cell? ⟨rb, 1, none⟩ = some (.bool s6.2) := hKr.cell 1
          have f1 := hKr.frozen 1
          clear hKr hAr
          have hdd : d = d7 := by rw [HDD.out 0, HD7.out 0, HCS.out 0]
          have hs7 : s7 = (if d.ok = true then s6 else ([], true)) := by rw [hdd]; exact HS7E.out 0
          have hfl : s7.2 = !d.ok := by rw [hs7]; cases d.ok <;> simp [HB6.out 0]
          have HFL := hid (HS7.out.flag (s' := s7) (fun h => by
            rw [hs7] at h ⊢
            cases hok : d.ok
            · rw [hok] at h; simp at h
            · simp))
          have HO8 := hid (HO7.out.setLow (HHR.out 0) 1 (.bool s7.2))
          rw [hfl] at HFL HO8
          obtain ⟨g1, g2, g3, g4, g5, g6⟩ := HFIN.out _ _ HFL.out HO8.out
          have HDE := hid (fun (_ : Nat) => hdd)
          clear HFIN HS7 HO7 HFL HO8 hfl hs7 hdd
          have HOK := hid (fun (_ : Nat) => (rfl : d.ok = d.ok))
          obtain ⟨ok, hok⟩ : ∃ ok, ok = d.ok := ⟨_, rfl⟩
          rw [← hok] at g1 g2 g3 g4 g5 g6 ⊢
          have HOK2 := hid (fun (_ : Nat) => hok)
          clear hok
          go_wp2_with (first
            | ((with_reducible refine wpL_load 47 (w.heap.size + 1) 0 E _ ?_ g1 Try.underlying47 ?_ hi47 ?_); (rfl); (rfl); (simp only [Act.put, List.setIfInBounds_toArray, List.set_cons_zero, List.set_cons_succ]))
            | ((with_reducible refine wpL_store 47 w.heap.size 0 E ?_ ?_ g2 hi47 honeE.out ?_); (rfl); (rfl); (simp only [Act.put])))
          refine bodyPost_ret (results_array Try.results68 rfl g3 Try.underlying47 rfl hi47) rfl ?_
          exact ⟨E, rfl, fun _ => ⟨.slice p i cap, by rw [HEE.out 0, HDE.out 0], by rw [← HDE.out 0, HDD.out 0]; exact g4⟩, HEL.out 0, honeE.out, g5, g6⟩
        · rw [hb6] at d1
          have hfl : s7.2 = true := by rw [HS7E.out 0]; split; exact hb6; rfl
          have HFL := hid (HS6.out.flag (s' := s7) (fun h => by rw [hfl] at h; cases h))
          have HO8 := hid (HO6.out.setLow (HHR.out 0) 1 (.bool s7.2))
          rw [hfl] at HFL HO8
          obtain ⟨g1, g2, g3, g4, g5, g6⟩ := HFIN.out _ _ HFL.out HO8.out
          have HFLL := hid (fun (_ : Nat) => hfl)
          clear HFIN HS6 HO6 HFL HO8 hfl HK7 hb6
          go_wp2_with (first
            | ((with_reducible refine wpL_load 47 (w.heap.size + 1) 0 E _ ?_ g1 Try.underlying47 ?_ hi47 ?_); (rfl); (rfl); (simp only [Act.put, List.setIfInBounds_toArray, List.set_cons_zero, List.set_cons_succ]))
            | ((with_reducible refine wpL_store 47 w.heap.size 0 E ?_ ?_ g2 hi47 honeE.out ?_); (rfl); (rfl); (simp only [Act.put])))
          refine bodyPost_ret (results_array Try.results68 rfl g3 Try.underlying47 rfl hi47) rfl ?_
          exact ⟨E, rfl, (fun hb => by rw [HFLL.out 0] at hb; cases hb), HEL.out 0, honeE.out, g5, g6⟩
end Go.Proofs.Ytpiflgbcbhnmpaa
