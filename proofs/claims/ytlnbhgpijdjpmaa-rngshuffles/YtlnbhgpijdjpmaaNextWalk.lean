/- Mix, and the law of numbers that follow. -/
import Derived.Test.YtlnbhgpijdjpmaaBel
namespace Go.Proofs.Ytlnbhgpijdjpmaa
open Go.RowKit
/-- What a law that holds answers. -/
def OutT (w : World) (e : Ending) (w' : World) : Prop := e = .returned (.bool true) ∧ Below w.heap.size w w'
/-- What Mix answers. -/
def mixV (s t : Nat) : Nat := scat (nxt (s ^^^ scat (nxt t)))
theorem xor_lt {a b : Nat} (ha : a < 18446744073709551616) (hb : b < 18446744073709551616) : a ^^^ b < 18446744073709551616 := by
  have := Nat.xor_lt_two_pow (x := a) (y := b) (n := 64) (by simpa using ha) (by simpa using hb)
  simpa using this
theorem mix_steps (s u : Nat) (hs : s < 18446744073709551616) : ∃ x y : Nat, scat (nxt u) = x ∧ x < 18446744073709551616 ∧ y < 18446744073709551616 ∧ bits .xor .u64 (s : Int) (x : Int) = (y : Int) ∧ scat (nxt y) = mixV s u :=
  ⟨_, _, rfl, scat_lt _, xor_lt hs (scat_lt _), bits_xor s _ hs (scat_lt _), rfl⟩
theorem mixV_lt (s t : Nat) : mixV s t < 18446744073709551616 := scat_lt _
set_option maxHeartbeats 1000000 in
theorem mix_any (s : Nat) (hs : s < 18446744073709551616) (t : Int) (w : World) : Calls Try.prog 9 #[.int .u64 (s : Int), .int .i64 t] w fun e w' => e = .returned (.int .u64 (mixV s (t % 18446744073709551616).toNat : Int)) ∧ Below w.heap.size w w' := by
  have e1 : IntKind.u64.wrap t = ((t % 18446744073709551616).toNat : Int) := by rw [IntKind.wrap_u64]; omega
  have ht : (t % 18446744073709551616).toNat < 18446744073709551616 := by omega
  generalize (t % 18446744073709551616).toNat = u at *
  have h11 : Hid (∀ a : Nat, ∀ W, Calls Try.prog 11 #[.int .u64 (a : Int)] W fun e w' => e = .returned (P W.heap.size) ∧ w' = W.alloc (.cells #[.int .u64 (a : Int)] 41)) := fun a W => new_any a W
  obtain ⟨x, y, hx, hxl, hyl, e2, hm⟩ := mix_steps s u hs
  have hml := mixV_lt s u
  have h13a : Hid (∀ W b, Src W b u → Calls Try.prog 13 #[P b] W fun e w' => OutS W b (nxt u) (.int .u64 (x : Int)) e w') := fun W b h => by have := next_any b u W h; rw [hx] at this; exact this
  have h13b : Hid (∀ W b, Src W b y → Calls Try.prog 13 #[P b] W fun e w' => OutS W b (nxt y) (.int .u64 (mixV s u : Int)) e w') := fun W b h => by have := next_any b y W h; rw [hm] at this; exact this
  clear hx hm
  generalize mixV s u = z at *
  go_enter Try.func9, Try.ntmps9
  go_wp2_with fail
  refine Calls.mono (h11.out u _) ?_
  rintro e w1 ⟨rfl, hw⟩
  have hs1 : Hid (Src w1 w.heap.size u) := by subst hw; exact Src.new w u
  have hb1 : Hid (Below w.heap.size w w1) := by subst hw; exact (Below.refl _ w).alloc (Nat.le_refl _) _
  clear hw
  go_wp2_with fail
  refine Calls.mono (h13a.out _ _ hs1.out) ?_
  rintro e w2 ⟨rfl, _, ho⟩
  have hb2 : Hid (Below w.heap.size w w2) := ho.below hb1.out (Nat.le_refl _) hb1.out.size
  clear ho hb1 hs1
  go_wp2_with fail
  refine Calls.mono (h11.out y _) ?_
  rintro e w3 ⟨rfl, hw⟩
  have hs3 : Hid (Src w3 w2.heap.size y) := by subst hw; exact Src.new w2 y
  have hb3 : Hid (Below w.heap.size w w3) := by subst hw; exact hb2.out.alloc hb2.out.size _
  have hz := hb2.out.size
  clear hw
  go_wp2_with fail
  refine Calls.mono (h13b.out _ _ hs3.out) ?_
  rintro e w4 ⟨rfl, _, ho⟩
  have hb4 : Hid (Below w.heap.size w w4) := ho.below hb3.out hz hb3.out.size
  clear ho hb3 hs3 hb2 hz
  go_wp2
  go_ret
  exact ⟨rfl, hb4.out⟩
set_option maxHeartbeats 1000000 in
theorem refMix_any (s : Nat) (hs : s < 18446744073709551616) (t : Int) (w : World) : Calls Try.prog 10 #[.int .u64 (s : Int), .int .i64 t] w fun e w' => e = .returned (.int .u64 (mixV s (t % 18446744073709551616).toNat : Int)) ∧ w' = w := by
  have e1 : IntKind.u64.wrap t = ((t % 18446744073709551616).toNat : Int) := by rw [IntKind.wrap_u64]; omega
  have ht : (t % 18446744073709551616).toNat < 18446744073709551616 := by omega
  generalize (t % 18446744073709551616).toNat = u at *
  obtain ⟨x, y, hx, hxl, hyl, e2, hm⟩ := mix_steps s u hs
  have hml := mixV_lt s u
  have h12a : Hid (∀ W, Calls Try.prog 12 #[.int .u64 (u : Int)] W fun e w' => e = .returned (.tuple #[.int .u64 (x : Int), .int .u64 (nxt u : Int)]) ∧ w' = W) := fun W => by have := refNext_any u W; unfold Nx at this; rw [hx] at this; exact this
  have h12b : Hid (∀ W, Calls Try.prog 12 #[.int .u64 (y : Int)] W fun e w' => e = .returned (.tuple #[.int .u64 (mixV s u : Int), .int .u64 (nxt y : Int)]) ∧ w' = W) := fun W => by have := refNext_any y W; unfold Nx at this; rw [hm] at this; exact this
  clear hx hm
  generalize mixV s u = z at *
  go_enter Try.func10, Try.ntmps10
  go_wp2_with fail
  refine Calls.mono (h12a.out _) ?_
  rintro e w1 ⟨rfl, rfl⟩
  go_wp2_with fail
  refine Calls.mono (h12b.out _) ?_
  rintro e w2 ⟨rfl, rfl⟩
  go_wp2
  go_ret
  exact ⟨rfl, rfl⟩
set_option maxHeartbeats 1000000 in
theorem next_walk (s n : Nat) (t : Int) (hs : s < 18446744073709551616) (hn : n < 256) (w : World) : Calls Try.prog 3 #[.int .u64 (s : Int), .int .u8 (n : Int), .int .i64 t] w fun e w' => OutT w e w' := by
  have h8 : Hid (∀ W, Calls Try.prog 8 #[] W fun e w' => e = .returned (.bool true) ∧ Below W.heap.size W w') := awake_any
  have h9 : Hid (∀ W, Calls Try.prog 9 #[.int .u64 (s : Int), .int .i64 t] W fun e w' => e = .returned (.int .u64 (mixV s (t % 18446744073709551616).toNat : Int)) ∧ Below W.heap.size W w') := mix_any s hs t
  have h10 : Hid (∀ W, Calls Try.prog 10 #[.int .u64 (s : Int), .int .i64 t] W fun e w' => e = .returned (.int .u64 (mixV s (t % 18446744073709551616).toNat : Int)) ∧ w' = W) := refMix_any s hs t
  have hm := mixV_lt s (t % 18446744073709551616).toNat
  generalize mixV s (t % 18446744073709551616).toNat = m at *
  have h11 : Hid (∀ W, Calls Try.prog 11 #[.int .u64 (s : Int)] W fun e w' => e = .returned (P W.heap.size) ∧ w' = W.alloc (.cells #[.int .u64 (s : Int)] 41)) := new_any s
  have h12 : Hid (∀ t W, Calls Try.prog 12 #[.int .u64 ((t : Nat) : Int)] W fun e w' => Nx t e ∧ w' = W) := fun t W => refNext_any t W
  have h13 : Hid (∀ W b a, Src W b a → Calls Try.prog 13 #[P b] W fun e w' => OutS W b (nxt a) (.int .u64 (scat (nxt a) : Int)) e w') := fun W b a h => next_any b a W h
  have h14 : Hid (∀ W b a, Src W b a → Calls Try.prog 14 #[P b] W fun e w' => e = .returned (.int .u64 (a : Int)) ∧ w' = W) := fun W b a h => seed_any b a W h
  go_enter Try.func3, Try.ntmps3
  go_wp2_with (first | (go_at_call 8; refine Calls.mono (h8.out _) ?_; rintro e w1 ⟨rfl, hb1⟩) | (go_at_call 9; refine Calls.mono (h9.out _) ?_; rintro e w2 ⟨rfl, hb2⟩) | (go_at_call 10; refine Calls.mono (h10.out _) ?_; rintro e w3 ⟨rfl, hw3⟩; subst w3))
  have HB := hid (hb1.trans (hb2.mono hb1.size))
  clear hb1 hb2
  refine Calls.mono (h11.out _) ?_
  rintro e w3 ⟨rfl, hw⟩
  obtain ⟨q, hq⟩ : ∃ q, w2.heap.size = q := ⟨_, rfl⟩
  have HS0 : Hid (Src w3 q s) := by subst hw; rw [← hq]; exact Src.new w2 s
  have HB0 : Hid (Below w.heap.size w w3) := by subst hw; exact HB.out.alloc HB.out.size _
  have HQ : Hid (w.heap.size ≤ q) := by rw [← hq]; exact HB.out.size
  rw [hq]
  clear hw HB hq
  go_wp2_with fail
  go_loopw [8, 9] (fun tv iv wr => ∃ t i : Nat, t < 18446744073709551616 ∧ i ≤ n ∧ tv = .int .u64 (t : Int) ∧ iv = .int .i64 (i : Int) ∧ Hid (Src wr q t) ∧ Hid (Below w.heap.size w wr)) (fun _ iv _ => n - (intOf iv).toNat)
  case atStart => exact ⟨s, 0, hs, by omega, rfl, rfl, HS0, HB0⟩
  case round =>
    obtain ⟨a, i, ha, hi, rfl, rfl, HS, HB⟩ := hrel
    by_cases hlt : i < n
    · have e0 : (i : Int) < (n : Int) := by omega
      go_wp2_with fail
      refine Calls.mono (h12.out a _) ?_
      rintro e wx ⟨he, hw⟩
      subst hw
      unfold Nx at he
      subst he
      have h13' : Hid (∀ W b, Src W b a → Calls Try.prog 13 #[P b] W fun e w' => OutS W b (nxt a) (.int .u64 (scat (nxt a) : Int)) e w') := fun W b h => h13.out W b a h
      have hx1 := scat_lt (nxt a)
      have hx2 := nxt_lt a
      generalize scat (nxt a) = x at *
      generalize nxt a = u at *
      go_wp2_with fail
      refine Calls.mono (h13'.out _ _ HS.out) ?_
      rintro e w5 ⟨rfl, hs5, ho5⟩
      have HS5 := hid hs5
      have HB5 := hid (ho5.below HB.out HQ.out HB.out.size)
      clear hs5 ho5
      go_wp2_with fail
      refine Calls.mono (h14.out _ _ _ HS5.out) ?_
      rintro e wx ⟨rfl, hw⟩
      subst hw
      go_wp2
      go_roundw
      case rel => exact ⟨u, i + 1, hx2, by omega, rfl, by simp, HS5, HB5⟩
      case measure => simp [intOf]; omega
    · obtain rfl : i = n := by omega
      go_wp2
      go_ret
      exact ⟨rfl, HB.out⟩
end Go.Proofs.Ytlnbhgpijdjpmaa
