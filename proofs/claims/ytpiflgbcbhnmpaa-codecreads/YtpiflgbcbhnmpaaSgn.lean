/- What Number and Signed answer, the program's and the reference's. -/
import Derived.Test.YtpiflgbcbhnmpaaNum
namespace Go.Proofs.Ytpiflgbcbhnmpaa
open Go.RowKit
/-- Bytes of the call's own, and an error's number. -/
def OutE (w : World) (base : Nat) (L : List Nat) (E : Int) (e : Ending) (w' : World) : Prop := ∃ p N cap, N = L.length ∧ e = .returned (.tuple #[.slice p N cap, .int .i64 E]) ∧ OwnB w' base (.slice p N cap) L ∧ Below base w w'
def numL (bs : List Nat) (n : Nat) : List Nat := if n < 9223372036854775808 then bs ++ sev n else []
def numE (n : Nat) : Int := if n < 9223372036854775808 then 0 else 2
set_option maxRecDepth 100000 in
theorem number_any (n : Nat) (hn : n < 18446744073709551616) (bs : List Nat) (p : Option Addr) (M cap : Nat) (w : World) (hM : M = bs.length) (hB : BytesAt w (.slice p M cap) bs) (hsz : M < 100000000000) :
    Calls Try.prog 10 #[.slice p M cap, .int .u64 (n : Int)] w fun e w' => OutE w w.heap.size (numL bs n) (numE n) e w' := by
  by_cases h : n < 9223372036854775808
  · have e1 : ¬ (9223372036854775807 : Int) < (n : Int) := by omega
    have hc := clone_any bs p M cap w hB hM (by omega)
    have hsM : M < 1000000000000 := by omega
    have HM : Hid (M = bs.length) := hM
    clear hM
    go_enter Try.func10, Try.ntmps10
    go_wp2_with fail
    refine hc.mono ?_
    rintro e w1 ⟨p1, N1, c1, hN1, rfl, ho1, hb1⟩
    have hc2 := appendSevens_any n hn bs w.heap.size p1 N1 c1 w1 hN1 ho1 hb1.size (by have := HM.out; omega)
    have HN1 : Hid (N1 = bs.length) := hN1
    clear hN1
    go_wp2_with fail
    refine hc2.mono ?_
    rintro e w2 ⟨p2, N2, c2, hN2, rfl, ho2, hb2⟩
    have HN2 : Hid (N2 = (bs ++ sev n).length) := hN2
    clear hN2
    go_wp2
    go_ret2
    unfold numL numE
    rw [if_pos h, if_pos h]
    exact ⟨p2, N2, c2, HN2.out, rfl, ho2, hb1.trans hb2⟩
  · have e1 : (9223372036854775807 : Int) < (n : Int) := by omega
    clear hB hM
    go_enter Try.func10, Try.ntmps10
    go_wp2
    go_ret2
    unfold numL numE
    rw [if_neg h, if_neg h]
    exact ⟨none, 0, 0, rfl, rfl, OwnB.nil _ _, Below.refl _ _⟩
set_option maxRecDepth 100000 in
theorem refNumberE_any (n : Nat) (hn : n < 18446744073709551616) (bs : List Nat) (p : Option Addr) (M cap : Nat) (w : World) (hM : M = bs.length) (hB : BytesAt w (.slice p M cap) bs) (hsz : M < 100000000000) :
    Calls Try.prog 11 #[.slice p M cap, .int .u64 (n : Int)] w fun e w' => OutE w w.heap.size (numL bs n) (numE n) e w' := by
  by_cases h : n < 9223372036854775808
  · have e1 : ¬ (9223372036854775807 : Int) < (n : Int) := by omega
    have hc := refNumber_any n hn bs p M cap w hM hB (by omega)
    have HM : Hid (M = bs.length) := hM
    clear hM
    go_enter Try.func11, Try.ntmps11
    go_wp2_with fail
    refine hc.mono ?_
    rintro e w2 ⟨p2, N2, c2, hN2, rfl, ho2, hb2⟩
    have HN2 : Hid (N2 = (bs ++ sev n).length) := hN2
    clear hN2
    go_wp2
    go_ret2
    unfold numL numE
    rw [if_pos h, if_pos h]
    exact ⟨p2, N2, c2, HN2.out, rfl, ho2, hb2⟩
  · have e1 : (9223372036854775807 : Int) < (n : Int) := by omega
    clear hB hM
    go_enter Try.func11, Try.ntmps11
    go_wp2
    go_ret2
    unfold numL numE
    rw [if_neg h, if_neg h]
    exact ⟨none, 0, 0, rfl, rfl, OwnB.nil _ _, Below.refl _ _⟩
/-- A signed number as one that is not. -/
def fold (z : Int) : Nat := if z < 0 then 2 * z.natAbs + 1 else 2 * z.natAbs
theorem fold_lt (z : Int) (h0 : -9223372036854775808 < z) (h1 : z < 9223372036854775808) : fold z < 18446744073709551616 := by unfold fold; split <;> omega
theorem bits_or1 (n : Nat) (h : n < 9223372036854775808) : bits .or .u64 (2 * (n : Int)) 1 = 2 * (n : Int) + 1 := by
  have e1 : (BitVec.ofInt 64 (2 * (n : Int))) = BitVec.ofNat 64 (2 * n) := by
    apply BitVec.eq_of_toNat_eq; simp; omega
  have e2 : (BitVec.ofInt 64 1) = 1#64 := rfl
  have e3 : (BitVec.ofNat 64 (2 * n) ||| 1#64).toNat = 2 * n + 1 := by
    rw [BitVec.toNat_or, BitVec.toNat_ofNat, Nat.mod_eq_of_lt (by omega)]
    have := Nat.two_pow_add_eq_or_of_lt (i := 1) (b := 1) (by decide) n
    simpa using this.symm
  show IntKind.u64.wrap (((BitVec.ofInt 64 (2 * (n : Int))) ||| (BitVec.ofInt 64 1)).toNat : Int) = _
  rw [e1, e2, e3]
  simp [IntKind.wrap, IntKind.bits, IntKind.signed]; omega
set_option maxRecDepth 100000 in
theorem sized_any (z : Int) (h0 : -9223372036854775808 < z) (h1 : z < 9223372036854775808) (w : World) :
    Calls Try.prog 48 #[.int .i64 z] w fun e w' => e = .returned (.int .u64 (fold z : Int)) ∧ w' = w := by
  rcases Int.lt_or_le z 0 with hz | hz
  · have e : (fold z : Int) = 2 * -z + 1 := by unfold fold; rw [if_pos hz]; omega
    rw [e]
    go_enter Try.func48, Try.ntmps48
    go_wp2
    go_ret
    exact ⟨rfl, rfl⟩
  · have e : (fold z : Int) = 2 * z := by unfold fold; rw [if_neg (by omega)]; omega
    rw [e]
    go_enter Try.func48, Try.ntmps48
    go_wp2
    go_ret
    exact ⟨rfl, rfl⟩
set_option maxRecDepth 100000 in
theorem foldSign_any (z : Int) (h0 : -9223372036854775808 < z) (h1 : z < 9223372036854775808) (w : World) :
    Calls Try.prog 47 #[.int .i64 z] w fun e w' => e = .returned (.int .u64 (fold z : Int)) ∧ w' = w := by
  rcases Int.lt_or_le z 0 with hz | hz
  · have e : (fold z : Int) = bits BinOp.or IntKind.u64 (-z * 2) 1 := by
      have hb := bits_or1 z.natAbs (by omega)
      rw [show 2 * ((z.natAbs : Nat) : Int) = -z * 2 by omega] at hb
      rw [hb]; unfold fold; rw [if_pos hz]; omega
    rw [e]
    go_enter Try.func47, Try.ntmps47
    go_wp2
    go_ret
    exact ⟨rfl, rfl⟩
  · have e : (fold z : Int) = z * 2 := by unfold fold; rw [if_neg (by omega)]; omega
    rw [e]
    go_enter Try.func47, Try.ntmps47
    go_wp2
    go_ret
    exact ⟨rfl, rfl⟩
def sgnL (bs : List Nat) (z : Int) : List Nat := if z = -9223372036854775808 then [] else bs ++ sev (fold z)
def sgnE (z : Int) : Int := if z = -9223372036854775808 then 2 else 0
set_option maxRecDepth 100000 in
theorem signed_any (z : Int) (h0 : -9223372036854775808 ≤ z) (h1 : z < 9223372036854775808) (bs : List Nat) (p : Option Addr) (M cap : Nat) (w : World) (hM : M = bs.length) (hB : BytesAt w (.slice p M cap) bs) (hsz : M < 100000000000) :
    Calls Try.prog 12 #[.slice p M cap, .int .i64 z] w fun e w' => OutE w w.heap.size (sgnL bs z) (sgnE z) e w' := by
  by_cases h : z = -9223372036854775808
  · clear hB hM
    subst h
    go_enter Try.func12, Try.ntmps12
    go_wp2
    go_ret2
    unfold sgnL sgnE
    rw [if_pos rfl, if_pos rfl]
    exact ⟨none, 0, 0, rfl, rfl, OwnB.nil _ _, Below.refl _ _⟩
  · have hc := clone_any bs p M cap w hB hM (by omega)
    have hf : Hid (∀ W, Calls Try.prog 47 #[.int .i64 z] W fun e w' => e = .returned (.int .u64 (fold z : Int)) ∧ w' = W) := fun W => foldSign_any z (by omega) h1 W
    have hfl := fold_lt z (by omega) h1
    have HL : Hid (∀ F, F = fold z → sgnL bs z = bs ++ sev F ∧ sgnE z = 0) := by
      rintro F rfl
      unfold sgnL sgnE
      rw [if_neg h, if_neg h]; exact ⟨rfl, rfl⟩
    obtain ⟨F, hF⟩ : ∃ F, F = fold z := ⟨_, rfl⟩
    rw [← hF] at hf hfl
    obtain ⟨l1, l2⟩ := HL.out F hF
    rw [l1, l2]
    have HM : Hid (M = bs.length) := hM
    clear hM hB HL l1 l2 hF
    go_enter Try.func12, Try.ntmps12
    go_wp2_with fail
    refine hc.mono ?_
    rintro e w1 ⟨p1, N1, c1, hN1, rfl, ho1, hb1⟩
    have hc2 := appendSevens_any F hfl bs w.heap.size p1 N1 c1 w1 hN1 ho1 hb1.size (by have := HM.out; omega)
    have HN1 : Hid (N1 = bs.length) := hN1
    clear hN1
    go_wp2_with fail
    refine (hf.out _).mono ?_
    rintro e w1' ⟨rfl, rfl⟩
    go_wp2_with fail
    refine hc2.mono ?_
    rintro e w2 ⟨p2, N2, c2, hN2, rfl, ho2, hb2⟩
    have HN2 : Hid (N2 = (bs ++ sev F).length) := hN2
    clear hN2
    go_wp2
    go_ret2
    exact ⟨p2, N2, c2, HN2.out, rfl, ho2, hb1.trans hb2⟩
set_option maxRecDepth 100000 in
theorem refSigned_any (z : Int) (h0 : -9223372036854775808 ≤ z) (h1 : z < 9223372036854775808) (bs : List Nat) (p : Option Addr) (M cap : Nat) (w : World) (hM : M = bs.length) (hB : BytesAt w (.slice p M cap) bs) (hsz : M < 100000000000) :
    Calls Try.prog 13 #[.slice p M cap, .int .i64 z] w fun e w' => OutE w w.heap.size (sgnL bs z) (sgnE z) e w' := by
  by_cases h : z = -9223372036854775808
  · clear hB hM
    subst h
    go_enter Try.func13, Try.ntmps13
    go_wp2
    go_ret2
    unfold sgnL sgnE
    rw [if_pos rfl, if_pos rfl]
    exact ⟨none, 0, 0, rfl, rfl, OwnB.nil _ _, Below.refl _ _⟩
  · have hf : Hid (∀ W, Calls Try.prog 48 #[.int .i64 z] W fun e w' => e = .returned (.int .u64 (fold z : Int)) ∧ w' = W) := fun W => sized_any z (by omega) h1 W
    have hfl := fold_lt z (by omega) h1
    have HL : Hid (∀ F, F = fold z → sgnL bs z = bs ++ sev F ∧ sgnE z = 0) := by
      rintro F rfl
      unfold sgnL sgnE
      rw [if_neg h, if_neg h]; exact ⟨rfl, rfl⟩
    obtain ⟨F, hF⟩ : ∃ F, F = fold z := ⟨_, rfl⟩
    rw [← hF] at hf hfl
    obtain ⟨l1, l2⟩ := HL.out F hF
    rw [l1, l2]
    have hc := refNumber_any F hfl bs p M cap w hM hB (by omega)
    have HM : Hid (M = bs.length) := hM
    clear hM hB HL l1 l2 hF
    go_enter Try.func13, Try.ntmps13
    go_wp2_with fail
    refine (hf.out _).mono ?_
    rintro e w1' ⟨rfl, rfl⟩
    go_wp2_with fail
    refine hc.mono ?_
    rintro e w2 ⟨p2, N2, c2, hN2, rfl, ho2, hb2⟩
    have HN2 : Hid (N2 = (bs ++ sev F).length) := hN2
    clear hN2
    go_wp2
    go_ret2
    exact ⟨p2, N2, c2, HN2.out, rfl, ho2, hb2⟩
end Go.Proofs.Ytpiflgbcbhnmpaa
