/- The law of cuts. -/
import Derived.Test.YtpiflgbcbhnmpaaCuts
namespace Go.Proofs.Ytpiflgbcbhnmpaa
open Go.RowKit
/-- What a writer of a replay answers. -/
def Wrote (ks : List Bk) (W : World) (e : Ending) (w' : World) : Prop := ∃ (p : Option Addr) (L c : Nat) (E : Int), e = .returned (.tuple #[.slice p L c, .int .i64 E]) ∧ Below W.heap.size W w' ∧ (E = 0 → bksOk ks = true ∧ L = (bksB ks).length ∧ BytesAt w' (.slice p L c) (bksB ks))
theorem wrote43 (ks : List Bk) (hfit : ∀ k ∈ ks, BkFit k ∧ k.ds.length < 1000000000) (p : Option Addr) (N cap : Nat) (w : World) (hN : N = ks.length) (h : BksLo w w.heap.size (.slice p N cap) ks) (hsz : N < 1000000000) : Calls Try.prog 43 #[.slice p N cap] w fun e w' => Wrote ks w e w' := by
  refine (replay43 ks hfit p N cap w hN h hsz).mono fun e w' he => ?_
  obtain ⟨q, L, c, hL, rfl, ho, hb⟩ := he
  refine ⟨q, L, c, _, rfl, hb, fun h0 => ?_⟩
  have hok : bksOk ks = true := by
    unfold repE at h0
    split at h0
    · assumption
    · simp at h0
  have e : repL ks = bksB ks := by unfold repL; rw [if_pos hok]
  rw [e] at hL ho
  exact ⟨hok, hL, ho.bytes⟩
/-- What a reader of a replay answers, as far as the law asks. -/
def Says (E : Int) (W : World) (e : Ending) (w' : World) : Prop := ∃ v : Value, e = .returned (.tuple #[v, .int .i64 E]) ∧ Below W.heap.size W w'
theorem says38 (bs : List Nat) (hbs : Byt bs) (p : Option Addr) (M cap : Nat) (w : World) (hM : M = bs.length) (hB : BytesAt w (.slice p M cap) bs) (hsz : M < 100000000000) : Calls Try.prog 38 #[.slice p M cap] w fun e w' => Says (whE bs.length (pRep (bs, false)).2) w e w' := by
  refine (read38 bs hbs p M cap w hM hB hsz).mono fun e w' he => ?_
  obtain ⟨p1, N1, c1, _, rfl, _, hb⟩ := he
  exact ⟨_, rfl, hb⟩
set_option maxRecDepth 100000 in
set_option maxHeartbeats 2000000 in
theorem cuts_walk (ks : List Bk) (hraw : ∀ k ∈ ks, BkRaw k) (p : Option Addr) (N cap : Nat) (hN : N = ks.length) (hNb : N ≤ 1000000000000000) (pos : Nat) (hpos : pos < 65536) (ms : List Nat) (hms : Byt ms) (q : Option Addr) (M qc : Nat) (hM : M = ms.length) (w : World) (h : BksLo w w.heap.size (.slice p N cap) ks) (hB : BytesAt w (.slice q M qc) ms) :
    Calls Try.prog 8 #[.slice p N cap, .int .u16 (pos : Int), .slice q M qc] w fun e w' => OutT w e w' := by
  have h9 : Hid (∀ W, Calls Try.prog 9 #[] W fun e w' => e = .returned (.bool true) ∧ Below W.heap.size W w') := awake_any
  have h19 : Hid (∀ W, Below w.heap.size w W → Calls Try.prog 19 #[.slice p N cap] W fun e w' => FewOk ks N W e w') := fun W hW => few19 ks hraw p N cap W hN ((h.below hW).mono hW.size) hNb
  have h43 : Hid (N ≤ 2000 → (∀ k ∈ ks, Small k) → ∀ W, Below w.heap.size w W → Calls Try.prog 43 #[.slice p N cap] W fun e w' => Wrote ks W e w') := fun h2 hs W hW => wrote43 ks (fun k hk => bk_fit (hraw k hk) (hs k hk)) p N cap W hN ((h.below hW).mono hW.size) (by omega)
  have HMS := hid hms
  have HM := hid (fun (_ : Nat) => hM)
  have HB := hid hB
  have HRAW := hid hraw
  clear hms hM hB hraw h hN
  go_enter Try.func8, Try.ntmps8
  go_wp2_with fail
  refine Calls.mono (h9.out _) ?_
  rintro e w1 ⟨rfl, hb1⟩
  have HB1 := hid hb1
  clear hb1
  go_wp2_with fail
  refine Calls.mono (h19.out _ HB1.out) ?_
  rintro e wx ⟨b, rfl, hw, hfew⟩
  subst hw
  have HFEW := hid hfew
  clear hfew h19
  cases b with
  | false =>
    go_wp2_with (go_at_call 9; refine Calls.mono (h9.out _) ?_; rintro e w2 ⟨rfl, hb2⟩)
    go_ret
    exact ⟨rfl, HB1.out.trans (hb2.mono HB1.out.size)⟩
  | true =>
    rcases Nat.eq_zero_or_pos M with hM0 | hM0
    · have e0 : (M : Int) = 0 := by omega
      go_wp2_with (go_at_call 9; refine Calls.mono (h9.out _) ?_; rintro e w2 ⟨rfl, hb2⟩)
      go_ret
      exact ⟨rfl, HB1.out.trans (hb2.mono HB1.out.size)⟩
    · have e0 : ((M : Int) == 0) = false := by simp; omega
      by_cases hM1 : 100 < M
      · have e1 : (100 : Int) < (M : Int) := by omega
        go_wp2_with (go_at_call 9; refine Calls.mono (h9.out _) ?_; rintro e w2 ⟨rfl, hb2⟩)
        go_ret
        exact ⟨rfl, HB1.out.trans (hb2.mono HB1.out.size)⟩
      · have e1 : (M : Int) ≤ 100 := by omega
        obtain ⟨hN2, hsm⟩ := HFEW.out rfl
        have HSM := hid hsm
        clear hsm
        go_wp2_with fail
        refine Calls.mono (h43.out hN2 HSM.out _ HB1.out) ?_
        rintro e w3 ⟨pb, L, c, E, rfl, hb3, hE⟩
        have HE := hid hE
        have HB3 := hid (HB1.out.trans (hb3.mono HB1.out.size))
        clear hE hb3 h43 HB1 h9
        by_cases hE0 : E = 0
        · subst hE0
          obtain ⟨hok, hL, hbb⟩ := HE.out rfl
          have HOK : Hid (∀ n : Nat, n = 0 → bksOk ks = true) := fun _ _ => hok
          have HL : Hid (∀ n : Nat, n = 0 → L = (bksB ks).length) := fun _ _ => hL
          have HBB := hid hbb
          clear hok hL hbb HE
          rcases Nat.eq_zero_or_pos L with hL0 | hL0
          · have e2 : (L : Int) = 0 := by omega
            go_wp2
            go_ret
            exact ⟨rfl, HB3.out⟩
          · have e2 : ((L : Int) == 0) = false := by simp; omega
            by_cases hL1 : 100000 < L
            · have e3 : (100000 : Int) < (L : Int) := by omega
              go_wp2
              go_ret
              exact ⟨rfl, HB3.out⟩
            · have e3 : (L : Int) ≤ 100000 := by omega
              obtain ⟨sb, so, rfl⟩ : ∃ sb so, pb = some ⟨sb, so, none⟩ := by
                obtain ⟨p', c', he, _, _, hh⟩ := HBB.out
                obtain ⟨sb, so, hp, _⟩ := hh (by intro h0; have := HL.out 0 rfl; rw [h0] at this; simp at this; omega)
                simp at he
                exact ⟨sb, so, he.1.trans hp⟩
              have hcL : L ≤ c := by
                obtain ⟨p', c', he, hc, _, _⟩ := HBB.out
                simp at he
                have := HL.out 0 rfl
                omega
              have hBK : ∀ k ∈ ks, BkFit k := fun k hk => (bk_fit (HRAW.out k hk) (HSM.out k hk)).1
              have hbyt : Byt (bksB ks) := byt_bks HRAW.out
              obtain ⟨kk, hkk, hkl⟩ : ∃ kk : Nat, (pos : Int) % (L : Int) = (kk : Int) ∧ kk < L := ⟨pos % L, by simp, Nat.mod_lt _ hL0⟩
              have HC1 : Hid (Calls Try.prog 38 #[.slice (some ⟨sb, so, none⟩) kk c] w3 fun e w' => Says 11 w3 e w') := by
                have hl := HL.out 0 rfl
                have ht : ((bksB ks).take kk).length = kk := by rw [List.length_take]; omega
                have := says38 ((bksB ks).take kk) (fun x hx => hbyt x (List.mem_of_mem_take hx)) (some ⟨sb, so, none⟩) kk c w3 ht.symm (bytes_take HBB.out (by omega)) (by omega)
                rw [cut_bad ks (HOK.out 0 rfl) hBK ⟨hbyt, by show (bksB ks).length < _; omega⟩ kk (by omega) (pRep_fits _) (by omega)] at this
                exact this
              have HC2 : Hid (∀ p c W, BytesAt W (.slice p (L + M) c) (bksB ks ++ ms) → Calls Try.prog 38 #[.slice p (L + M) c] W fun e w' => Says 11 W e w') := fun p c W hW => by
                have hl := HL.out 0 rfl
                have hm := HM.out 0
                have ht : L + M = (bksB ks ++ ms).length := by rw [List.length_append]; omega
                have := says38 (bksB ks ++ ms) (byt_app hbyt HMS.out) p (L + M) c W ht hW (by omega)
                rw [more_bad ks (HOK.out 0 rfl) hBK ms (by intro h0; rw [h0] at hm; simp at hm; omega) (by rw [← ht]; omega)] at this
                exact this
              obtain ⟨T, hT⟩ : ∃ T, L + M = T := ⟨_, rfl⟩
              rw [hT] at HC2
              have HAPP : Hid (∀ n : Nat, n = 0 → ([] : List Nat).length + (bksB ks).length = L ∧ (bksB ks).length + ms.length = T) := fun _ _ => by
                have := HL.out 0 rfl
                have := HM.out 0
                exact ⟨by simp; omega, by omega⟩
              have hTl : Hid (T ≤ 1099511627776) := by show T ≤ _; omega
              have hLl : Hid (L ≤ 1099511627776) := by show L ≤ _; omega
              clear hT hBK hbyt HSM HRAW
              generalize bksB ks = bs at *
              go_wp2_with fail
              refine Calls.mono HC1.out ?_
              rintro e w4 ⟨v4, rfl, hb4⟩
              have HB4 := hid (HB3.out.trans (hb4.mono HB3.out.size))
              have HBB4 := hid (HBB.out.below hb4)
              clear hb4 HC1 HBB HB3
              go_wp2_with (first
                | ((with_reducible refine wpL_append w.heap.size (.slice none 0 0) (.slice (some ⟨sb, so, none⟩) L c) [] bs L ?_ ?_ ?_ (OwnB.nil _ _) HBB4.out ?_ ?_ ?_); (exact (HAPP.out 0 rfl).1); (rfl); (rfl); (exact hLl.out); (exact HB4.out.size); intro p5 c5 w5 ho5 hb5; have HO5 : Hid (OwnB w5 w.heap.size (.slice p5 L c5) bs) := ho5; have HB5 := hid (HB4.out.trans hb5); have HM5 := hid (HB.out.below HB5.out); clear ho5 hb5; simp only [Act.put, List.setIfInBounds_toArray, List.set_cons_zero, List.set_cons_succ])
                | ((with_reducible refine wpL_append w.heap.size (.slice p5 L c5) (.slice q M qc) bs ms T ?_ ?_ ?_ HO5.out HM5.out ?_ ?_ ?_); (exact (HAPP.out 0 rfl).2); (rfl); (rfl); (exact hTl.out); (exact HB5.out.size); intro p6 c6 w6 ho6 hb6; have HO6 := hid ho6; have HB6 := hid (HB5.out.trans hb6); clear ho6 hb6; simp only [Act.put, List.setIfInBounds_toArray, List.set_cons_zero, List.set_cons_succ]))
              refine Calls.mono (HC2.out _ _ _ HO6.out.bytes) ?_
              rintro e w7 ⟨v7, rfl, hb7⟩
              have HB7 := hid (HB6.out.trans (hb7.mono HB6.out.size))
              clear hb7
              go_wp2
              go_ret
              exact ⟨rfl, HB7.out⟩
        · have bE : (E == 0) = false := by simp [hE0]
          go_wp2
          go_ret
          exact ⟨rfl, HB3.out⟩
end Go.Proofs.Ytpiflgbcbhnmpaa
