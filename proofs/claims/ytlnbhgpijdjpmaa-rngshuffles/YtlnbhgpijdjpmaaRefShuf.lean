/- The reference's Shuffle. -/
import Derived.Test.YtlnbhgpijdjpmaaShuf
namespace Go.Proofs.Ytlnbhgpijdjpmaa
open Go.RowKit
/-- What the reference's shuffle answers. -/
def OutX (w : World) (M T : Nat) (R : List Int) (e : Ending) (w' : World) : Prop := ∃ p cap, e = .returned (.tuple #[.slice p M cap, .int .u64 (T : Int)]) ∧ (0 < M → ∃ g, p = some ⟨g, 0, none⟩ ∧ w.heap.size ≤ g ∧ RowB w' g R) ∧ Below w.heap.size w w'
set_option maxHeartbeats 2000000 in
theorem refShuffle_any (s : Nat) (hs : s < 18446744073709551616) (zs : List Int) (p : Option Addr) (M cap : Nat) (w : World) (hM : M = zs.length) (hI : IntsAt .i64 w (.slice p M cap) zs) (hl : M ≤ 1000) : Calls Try.prog 18 #[.int .u64 (s : Int), .slice p M cap] w fun e w' => OutX w M (shuf (M - 1) s zs).2 (shuf (M - 1) s zs).1 e w' := by
  have HI := hid hI
  have HM := hid (fun (_ : Nat) => hM)
  have h16 : Hid (∀ (W : World) (a n : Nat), a < 18446744073709551616 → n < 18446744073709551616 → Calls Try.prog 16 #[.int .u64 ((a : Nat) : Int), .int .u64 ((n : Nat) : Int)] W fun e w' => Bx n a e ∧ w' = W) := fun W a n ha hn => refBelow_any a n ha hn W
  obtain ⟨R, hR⟩ : ∃ R, shuf (M - 1) s zs = R := ⟨_, rfl⟩
  rw [hR]
  have HR0 := hid (fun (_ : Nat) => hR)
  clear hI hM hR
  have hM1 : (M : Int) ≤ 1000 := by omega
  go_enter Try.func18, Try.ntmps18
  go_wp2_with (with_reducible refine wpL_append M zs (.slice p M cap) (HM.out 0) hl (by go_simp) (by go_simp) HI.out ?_; intro pn cn w2 _ hr hb2; have HR := hid hr; have HB2 := hid hb2; clear hr hb2)
  rcases Nat.eq_zero_or_pos M with h0 | h0
  · have hz : Hid (∀ k : Nat, k = M → R = (zs, s)) := fun k _ => by have := HR0.out 0; rw [h0] at this; exact this.symm
    have e0 : (M : Int) = 0 := by omega
    go_loopw [0, 7] (fun sv iv wr => sv = .int .u64 (s : Int) ∧ iv = .int .i64 ((M : Int) - 1) ∧ wr = w2) (fun _ _ _ => 0)
    case atStart => exact ⟨rfl, rfl, rfl⟩
    case round =>
      obtain ⟨rfl, rfl, rfl⟩ := hrel
      go_wp2
      go_ret2
      rw [hz.out M rfl]
      exact ⟨pn, cn, rfl, fun h => by omega, HB2.out⟩
  · obtain ⟨g, rfl, hg, hrow⟩ := HR.out h0
    have HG := hid hg
    have HR2 := hid hrow
    clear hg hrow HR
    have start : Hid (∃ (j t : Nat) (l : List Int), Value.int .u64 (s : Int) = .int .u64 (t : Int) ∧ Value.int .i64 ((M : Int) - 1) = .int .i64 (j : Int) ∧ j < M ∧ t < 18446744073709551616 ∧ Hid (l.length = M) ∧ Hid (RowB w2 g l) ∧ Hid (Below w.heap.size w w2) ∧ Hid (∀ k : Nat, k = j → shuf k t l = R)) :=
      ⟨M - 1, s, zs, rfl, by congr 1; omega, by omega, hs, (HM.out 0).symm, HR2, HB2, fun k hk => by rw [hk]; exact HR0.out 0⟩
    go_loopw [0, 7] (fun sv iv wr => ∃ (j t : Nat) (l : List Int), sv = .int .u64 (t : Int) ∧ iv = .int .i64 (j : Int) ∧ j < M ∧ t < 18446744073709551616 ∧ Hid (l.length = M) ∧ Hid (RowB wr g l) ∧ Hid (Below w.heap.size w wr) ∧ Hid (∀ k : Nat, k = j → shuf k t l = R)) (fun _ iv _ => (intOf iv).toNat)
    case atStart => exact start.out
    case round =>
      clear start HR2 HB2 HR0 HI
      obtain ⟨i, t, l, rfl, rfl, hi, ht, HL, HR, HB, HF⟩ := hrel
      by_cases hj : 0 < i
      · obtain ⟨n, hn⟩ : ∃ n : Nat, (i : Int) + 1 = (n : Int) := ⟨i + 1, by omega⟩
        have hnl : n < 18446744073709551616 := by omega
        have hj1 : (0 : Int) < (i : Int) := by omega
        go_wp2_with fail
        refine Calls.mono (h16.out _ t n ht hnl) ?_
        rintro e wx ⟨he, hw⟩
        subst hw
        unfold Bx at he
        subst he
        have hx : bN n t < n := bN_lt (by omega)
        have hu : bS n t < 18446744073709551616 := bS_lt ht
        have HF5 : Hid (∀ k : Nat, k + 1 = i → shuf k (bS n t) (swp l i (bN n t)) = R) := fun k hk => by
          have := HF.out (k + 1) hk
          rw [shuf] at this
          rw [← this]
          obtain rfl : n = k + 2 := by omega
          subst hk
          rfl
        generalize bN n t = x at *
        generalize bS n t = u at *
        clear HF h16
        have f1 : (0 : Int) ≤ (i : Int) := by omega
        have f2 : (0 : Int) ≤ (x : Int) := by omega
        have f3 : (x : Int) < (M : Int) := by omega
        have f4 : (i : Int) < (M : Int) := by omega
        have c1 := HR.out.cell i (by have := HL.out; omega)
        have c2 := HR.out.cell x (by have := HL.out; omega)
        have z1 := HR.out.frozen i
        have HR6 := hid (HR.out.swap i x)
        obtain ⟨d, c3⟩ : ∃ d, (wx.setCell ⟨g, i, none⟩ (.int .i64 (l.getD x 0))).cell? ⟨g, x, none⟩ = some (.int .i64 d) := ⟨_, (HR.out.set i (l.getD x 0)).cell x (by have := HL.out; rw [List.length_set]; omega)⟩
        have z3 := (HR.out.set i (l.getD x 0)).frozen x
        have HL6 : Hid ((swp l i x).length = M) := by show _ = M; rw [swp_length]; exact HL.out
        generalize swp l i x = l6 at *
        generalize l.getD i 0 = a at *
        generalize l.getD x 0 = c at *
        have HB6 := hid ((HB.out.setCell (p := ⟨g, i, none⟩) HG.out (.int .i64 c)).setCell (p := ⟨g, x, none⟩) HG.out (.int .i64 a))
        go_wp2
        go_roundw
        case rel => exact ⟨i - 1, u, l6, rfl, by congr 1; omega, by omega, hu, HL6, HR6, HB6, fun k hk => HF5.out k (by omega)⟩
        case measure => simp [intOf]; omega
      · obtain rfl : i = 0 := by omega
        have hf := HF.out 0 rfl
        have HF' := hid (fun (_ : Nat) => hf)
        clear hf HF
        go_wp2
        go_ret2
        have := HF'.out 0
        rw [shuf] at this
        subst this
        exact ⟨_, cn, rfl, fun _ => ⟨g, rfl, HG.out, HR.out⟩, HB.out⟩
end Go.Proofs.Ytlnbhgpijdjpmaa
