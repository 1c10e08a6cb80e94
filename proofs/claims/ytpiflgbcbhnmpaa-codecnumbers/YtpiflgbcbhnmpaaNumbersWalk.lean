/- The walk of the law CodecNumbers: it answers true. -/
import Derived.Test.YtpiflgbcbhnmpaaAwake
import Derived.Test.YtpiflgbcbhnmpaaRefRsgn
namespace Go.Proofs.Ytpiflgbcbhnmpaa
open Go.RowKit
set_option maxRecDepth 100000 in
theorem numbers_big (n : Nat) (z : Int) (p : Option Addr) (M cap : Nat) (w : World) (hm : 10000 < M) :
    Calls Try.prog 3 #[.int .u64 (n : Int), .int .i64 z, .slice p M cap] w fun e w' => e = .returned (.bool true) ∧ Below w.heap.size w w' := by
  have haw : Hid (∀ W, Calls Try.prog 9 #[] W fun e w' => e = .returned (.bool true) ∧ Below W.heap.size W w') := fun W => awake_any W
  have hm' : (10000 : Int) < (M : Int) := by omega
  go_enter Try.func3, Try.ntmps3
  go_wp2_with fail
  refine (haw.out w).mono ?_
  rintro e w1 ⟨rfl, hb1⟩
  go_wp2_with fail
  refine (haw.out w1).mono ?_
  rintro e w2 ⟨rfl, hb2⟩
  go_wp2
  go_ret
  exact ⟨rfl, hb1.trans (hb2.mono hb1.size)⟩
set_option maxRecDepth 100000 in
set_option maxHeartbeats 4000000 in
theorem numbers_walk (n : Nat) (hn : n < 18446744073709551616) (z : Int) (h0 : -9223372036854775808 ≤ z) (h1 : z < 9223372036854775808) (bs : List Nat) (hbs : ∀ x ∈ bs, x < 256) (p : Option Addr) (M cap : Nat) (w : World) (hM : M = bs.length) (hB : BytesAt w (.slice p M cap) bs) (hm : M ≤ 10000) :
    Calls Try.prog 3 #[.int .u64 (n : Int), .int .i64 z, .slice p M cap] w fun e w' => e = .returned (.bool true) ∧ Below w.heap.size w w' := by
  have haw : Hid (Calls Try.prog 9 #[] w fun e w' => e = .returned (.bool true) ∧ Below w.heap.size w w') := awake_any w
  have hm' : ¬ (10000 : Int) < (M : Int) := by omega
  have c10 : Hid (∀ W, Below w.heap.size w W → Calls Try.prog 10 #[.slice p M cap, .int .u64 (n : Int)] W fun e w' => OutE W W.heap.size (numL bs n) (numE n) e w') := fun W h => number_any n hn bs p M cap W hM (hB.below h) (by omega)
  have c11 : Hid (∀ W, Below w.heap.size w W → Calls Try.prog 11 #[.slice p M cap, .int .u64 (n : Int)] W fun e w' => OutE W W.heap.size (numL bs n) (numE n) e w') := fun W h => refNumberE_any n hn bs p M cap W hM (hB.below h) (by omega)
  have c12 : Hid (∀ W, Below w.heap.size w W → Calls Try.prog 12 #[.slice p M cap, .int .i64 z] W fun e w' => OutE W W.heap.size (sgnL bs z) (sgnE z) e w') := fun W h => signed_any z h0 h1 bs p M cap W hM (hB.below h) (by omega)
  have c13 : Hid (∀ W, Below w.heap.size w W → Calls Try.prog 13 #[.slice p M cap, .int .i64 z] W fun e w' => OutE W W.heap.size (sgnL bs z) (sgnE z) e w') := fun W h => refSigned_any z h0 h1 bs p M cap W hM (hB.below h) (by omega)
  have c15 : Hid (∀ W, Below w.heap.size w W → Calls Try.prog 15 #[.slice p M cap] W fun e w' => OutR W W.heap.size (.int .u64 (rdN bs : Int)) (rdL bs) (rdE bs) e w') := fun W h => readNumber_any bs hbs p M cap W hM (hB.below h) (by omega)
  have c16 : Hid (∀ W, Below w.heap.size w W → Calls Try.prog 16 #[.slice p M cap] W fun e w' => OutR W W.heap.size (.int .u64 (rdN bs : Int)) (rdL bs) (rdE bs) e w') := fun W h => refReadNumber_any bs hbs p M cap W hM (hB.below h) (by omega)
  have c17 : Hid (∀ W, Below w.heap.size w W → Calls Try.prog 17 #[.slice p M cap] W fun e w' => OutR W W.heap.size (.int .i64 (rsZ bs)) (rsL bs) (rsE bs) e w') := fun W h => readSigned_any bs hbs p M cap W hM (hB.below h) (by omega)
  have c18 : Hid (∀ W, Below w.heap.size w W → Calls Try.prog 18 #[.slice p M cap] W fun e w' => OutR W W.heap.size (.int .i64 (rsZ bs)) (rsL bs) (rsE bs) e w') := fun W h => refReadSigned_any bs hbs p M cap W hM (hB.below h) (by omega)
  have hl1 : Hid ((numL bs n).length < 4611686018427387904) := by
    have := sev_len10 hn
    show _ < _
    unfold numL; split <;> simp; omega
  have hl2 : Hid ((sgnL bs z).length < 4611686018427387904) := by
    show _ < _
    unfold sgnL; split
    · simp
    · have := sev_len10 (fold_lt z (by omega) h1)
      simp; omega
  have hl3 : Hid ((rdL bs).length < 4611686018427387904) := by
    show _ < _
    unfold rdL; split <;> simp; omega
  have hl4 : Hid ((rsL bs).length < 4611686018427387904) := by
    show _ < _
    unfold rsL; split <;> simp; omega
  clear hB hbs hM
  generalize numL bs n = L1 at *
  generalize numE n = E1 at *
  generalize sgnL bs z = L2 at *
  generalize sgnE z = E2 at *
  generalize rdN bs = V3 at *
  generalize rdL bs = L3 at *
  generalize rdE bs = E3 at *
  generalize rsZ bs = V4 at *
  generalize rsL bs = L4 at *
  generalize rsE bs = E4 at *
  go_enter Try.func3, Try.ntmps3
  go_wp2_with fail
  refine haw.out.mono ?_
  rintro e w0 ⟨rfl, hb0⟩
  clear haw
  go_wp2_with fail
  refine (c10.out w0 hb0).mono ?_
  rintro e w1 ⟨p1, N1, k1, hN1, rfl, ho1, hb1⟩
  have be1 : Below w.heap.size w w1 := hb0.trans (hb1.mono hb0.size)
  have B1 := ho1.bytes
  have HN1 : Hid (N1 = L1.length) := hN1
  clear hN1 ho1
  go_wp2_with fail
  refine (c11.out w1 be1).mono ?_
  rintro e w2 ⟨p2, N2, k2, hN2, rfl, ho2, hb2⟩
  have be2 : Below w.heap.size w w2 := be1.trans (hb2.mono be1.size)
  have B2 := ho2.bytes
  have B1' := B1.below hb2
  obtain rfl : N2 = N1 := by rw [hN2, HN1.out]
  clear hN2 ho2 B1
  go_wp2_with fail
  refine (c12.out w2 be2).mono ?_
  rintro e w3 ⟨p3, N3, k3, hN3, rfl, ho3, hb3⟩
  have be3 : Below w.heap.size w w3 := be2.trans (hb3.mono be2.size)
  have B3 := ho3.bytes
  have B1 := B1'.below hb3
  have B2' := B2.below hb3
  have HN3 : Hid (N3 = L2.length) := hN3
  clear hN3 ho3 B1' B2
  go_wp2_with fail
  refine (c13.out w3 be3).mono ?_
  rintro e w4 ⟨p4, N4, k4, hN4, rfl, ho4, hb4⟩
  have be4 : Below w.heap.size w w4 := be3.trans (hb4.mono be3.size)
  have B4 := ho4.bytes
  have B1' := B1.below hb4
  have B2 := B2'.below hb4
  have B3' := B3.below hb4
  obtain rfl : N4 = N3 := by rw [hN4, HN3.out]
  clear hN4 ho4 B1 B2' B3
  have s1 : Hid (Calls Try.prog 14 #[.slice p1 N2 k1, .slice p2 N2 k2] w4 fun e w' => e = .returned (.bool true) ∧ Below w4.heap.size w4 w') := (same_any L1 p1 p2 N2 k1 k2 w4 HN1.out B1' B2 (by rw [HN1.out]; exact hl1.out)).mono fun e w'' ⟨he, n, hw⟩ => ⟨he, by rw [hw]; exact Below.drewN (Below.refl _ _) n⟩
  have s2 : Hid (∀ W, Below w4.heap.size w4 W → Calls Try.prog 14 #[.slice p3 N4 k3, .slice p4 N4 k4] W fun e w' => e = .returned (.bool true) ∧ Below W.heap.size W w') := fun W h => (same_any L2 p3 p4 N4 k3 k4 W HN3.out (B3'.below h) (B4.below h) (by rw [HN3.out]; exact hl2.out)).mono fun e w'' ⟨he, n, hw⟩ => ⟨he, by rw [hw]; exact Below.drewN (Below.refl _ _) n⟩
  clear B1' B2 B3' B4 hb0 hb1 hb2 hb3 hb4 be1 be2 be3 c10 c11 c12 c13 hl1 hl2
  go_wp2_with fail
  refine Calls.mono s1.out ?_
  rintro e w5 ⟨rfl, hb5⟩
  go_wp2_with fail
  refine Calls.mono (s2.out w5 hb5) ?_
  rintro e w6 ⟨rfl, hb6⟩
  have be6 : Below w.heap.size w w6 := (be4.trans (hb5.mono be4.size)).trans (hb6.mono (be4.trans (hb5.mono be4.size)).size)
  clear s1 s2 hb5 hb6 be4
  go_wp2_with fail
  refine (c15.out w6 be6).mono ?_
  rintro e w7 ⟨p7, N7, k7, hN7, rfl, ho7, hb7⟩
  have be7 : Below w.heap.size w w7 := be6.trans (hb7.mono be6.size)
  have B7 := ho7.bytes
  have HN7 : Hid (N7 = L3.length) := hN7
  clear hN7 ho7
  go_wp2_with fail
  refine (c16.out w7 be7).mono ?_
  rintro e w8 ⟨p8, N8, k8, hN8, rfl, ho8, hb8⟩
  have be8 : Below w.heap.size w w8 := be7.trans (hb8.mono be7.size)
  have B8 := ho8.bytes
  have B7' := B7.below hb8
  obtain rfl : N8 = N7 := by rw [hN8, HN7.out]
  have s3 : Hid (Calls Try.prog 14 #[.slice p7 N8 k7, .slice p8 N8 k8] w8 fun e w' => e = .returned (.bool true) ∧ Below w8.heap.size w8 w') := (same_any L3 p7 p8 N8 k7 k8 w8 HN7.out B7' B8 (by rw [HN7.out]; exact hl3.out)).mono fun e w'' ⟨he, n, hw⟩ => ⟨he, by rw [hw]; exact Below.drewN (Below.refl _ _) n⟩
  clear hN8 ho8 B7 B8 B7' hb7 hb8 c15 c16 be6 be7 hl3
  go_wp2_with fail
  refine Calls.mono s3.out ?_
  rintro e w9 ⟨rfl, hb9⟩
  have be9 : Below w.heap.size w w9 := be8.trans (hb9.mono be8.size)
  clear s3 hb9 be8
  go_wp2_with fail
  refine (c17.out w9 be9).mono ?_
  rintro e w10 ⟨pa, Na, ka, hNa, rfl, hoa, hba⟩
  have bea : Below w.heap.size w w10 := be9.trans (hba.mono be9.size)
  have Ba := hoa.bytes
  have HNa : Hid (Na = L4.length) := hNa
  clear hNa hoa
  go_wp2_with fail
  refine (c18.out w10 bea).mono ?_
  rintro e w11 ⟨pb, Nb, kb, hNb, rfl, hob, hbb⟩
  have beb : Below w.heap.size w w11 := bea.trans (hbb.mono bea.size)
  have Bb := hob.bytes
  have Ba' := Ba.below hbb
  obtain rfl : Nb = Na := by rw [hNb, HNa.out]
  have s4 : Hid (Calls Try.prog 14 #[.slice pa Nb ka, .slice pb Nb kb] w11 fun e w' => e = .returned (.bool true) ∧ Below w11.heap.size w11 w') := (same_any L4 pa pb Nb ka kb w11 HNa.out Ba' Bb (by rw [HNa.out]; exact hl4.out)).mono fun e w'' ⟨he, n, hw⟩ => ⟨he, by rw [hw]; exact Below.drewN (Below.refl _ _) n⟩
  clear hNb hob Ba Bb Ba' hba hbb c17 c18 bea be9 hl4
  go_wp2_with fail
  refine Calls.mono s4.out ?_
  rintro e w12 ⟨rfl, hbc⟩
  go_wp2
  go_ret
  exact ⟨rfl, beb.trans (hbc.mono beb.size)⟩
end Go.Proofs.Ytpiflgbcbhnmpaa
