/- The reference writes numbers and commands. -/
import Derived.Test.YtpiflgbcbhnmpaaRnam
import Derived.Test.YtpiflgbcbhnmpaaWblo
import Derived.Test.YtpiflgbcbhnmpaaWres
namespace Go.Proofs.Ytpiflgbcbhnmpaa
open Go.RowKit
/-- A number has been written behind others, in a new row. -/
def NumOk (w : World) (N : Nat) (L : List Nat) (e : Ending) (w' : World) : Prop := ∃ p2 N2 c2, N2 = L.length ∧ e = .returned (.slice p2 N2 c2) ∧ N2 ≤ N + 10 ∧ OwnB w' w.heap.size (.slice p2 N2 c2) L ∧ Below w.heap.size w w'
theorem refNum (n : Nat) (p1 : Option Addr) (N1 c1 : Nat) (L : List Nat) (W1 : World) (hn : n < 18446744073709551616) (hB : BytesAt W1 (.slice p1 N1 c1) L) (hN : N1 = L.length) (hb : N1 < 100000000000) : Calls Try.prog 46 #[.slice p1 N1 c1, .int .u64 (n : Int)] W1 fun e w' => NumOk W1 N1 (L ++ sev n) e w' :=
  (refNumber_any n hn L p1 N1 c1 W1 hN hB (by omega)).mono fun _ _ ⟨p2, N2, c2, a1, a2, a3, a4⟩ => ⟨p2, N2, c2, a1, a2, by rw [a1, List.length_append, ← hN]; have := sev_len10 (n := n) hn; omega, a3, a4⟩
set_option maxRecDepth 100000 in
set_option maxHeartbeats 8000000 in
theorem rcommand84 (k u t h x y : Nat) (hk : k < 1000) (hu : u < 4294967296) (ht : t < 4294967296) (hh : h < 1000) (hx : x < 1000) (hy : y < 1000) (xs : List Nat) (p : Option Addr) (M cap : Nat) (w : World) (hM : M = xs.length) (hB : BytesAt w (.slice p M cap) xs) (hsz : M < 10000000000) :
    Calls Try.prog 84 #[.slice p M cap, .agg #[.int .i64 (k : Int), .int .i64 (u : Int), .int .i64 (t : Int), .int .i64 (h : Int), .int .i64 (x : Int), .int .i64 (y : Int)]] w fun e w' => OutB w w.heap.size (xs ++ cmdB k u t h x y) e w' := by
  have hnk := hid (names58 (k : Int))
  have hup : Hid (∀ (n : Nat) (p1 : Option Addr) (N1 c1 : Nat) (L : List Nat) (W1 : World), n < 18446744073709551616 → BytesAt W1 (.slice p1 N1 c1) L → N1 = L.length → N1 < 100000000000 → Calls Try.prog 46 #[.slice p1 N1 c1, .int .u64 (n : Int)] W1 fun e w' => NumOk W1 N1 (L ++ sev n) e w') := refNum
  have hcase : (nU (k : Int) = true ∧ nT (k : Int) = false ∧ nW (k : Int) = false ∧ nC (k : Int) = true) ∨ (nU (k : Int) = true ∧ nT (k : Int) = true ∧ nW (k : Int) = false ∧ nC (k : Int) = false) ∨ (nU (k : Int) = true ∧ nT (k : Int) = false ∧ nW (k : Int) = true ∧ nC (k : Int) = false) ∨ (nU (k : Int) = true ∧ nT (k : Int) = false ∧ nW (k : Int) = false ∧ nC (k : Int) = false) ∨ (nU (k : Int) = false ∧ nT (k : Int) = false ∧ nW (k : Int) = false ∧ nC (k : Int) = false) := by
    have hc : (k : Int) = 1 ∨ (k : Int) = 2 ∨ (k : Int) = 3 ∨ (k : Int) = 4 ∨ (k : Int) = 5 ∨ (((k : Int) == 1) = false ∧ ((k : Int) == 2) = false ∧ ((k : Int) == 3) = false ∧ ((k : Int) == 4) = false ∧ ((k : Int) == 5) = false) := by simp; omega
    rcases hc with h | h | h | h | h | ⟨h1, h2, h3, h4, h5⟩
    case' inr.inr.inr.inr.inr => simp [nU, nT, nW, nC, h1, h2, h3, h4, h5]
    all_goals
      rw [h]
      decide
  obtain ⟨W, hW⟩ : ∃ W, W = w.alloc (.cells #[Value.int .i64 (k : Int), .int .i64 (u : Int), .int .i64 (t : Int), .int .i64 (h : Int), .int .i64 (x : Int), .int .i64 (y : Int)] 52) := ⟨_, rfl⟩
  obtain ⟨B, hBB⟩ : ∃ B, B = w.heap.size := ⟨_, rfl⟩
  have HBW : Hid (Below w.heap.size w W) := by rw [hW]; exact (Below.refl _ _).alloc (Nat.le_refl _) _
  have HQ : Hid (Blk W B [.int .i64 (k : Int), .int .i64 (u : Int), .int .i64 (t : Int), .int .i64 (h : Int), .int .i64 (x : Int), .int .i64 (y : Int)] 52) := by rw [hW, hBB]; exact Blk.new _ _ _
  have HBY := hid (hB.below HBW.out)
  have HM := hid hM
  unfold cmdB
  unfold NumOk at hup
  clear hB hM
  rcases hcase with ⟨q1, q2, q3, q4⟩ | ⟨q1, q2, q3, q4⟩ | ⟨q1, q2, q3, q4⟩ | ⟨q1, q2, q3, q4⟩ | ⟨q1, q2, q3, q4⟩
  · have hce : sev k ++ ((if nU (k : Int) then sev u else []) ++ ((if nT (k : Int) then sev t else []) ++ ((if nW (k : Int) then sev h else []) ++ (if nC (k : Int) then sev x ++ sev y else [])))) = sev k ++ (sev u ++ (sev x ++ (sev y))) := by simp [q1, q2, q3, q4]
    rw [hce]
    clear hce
    simp only [q1, q2, q3, q4] at hnk
    clear q1 q2 q3 q4
    have q0 : W.cell? ⟨B, 0, none⟩ = some (.int .i64 (k : Int)) := HQ.out.cell 0
    have q1 : W.cell? ⟨B, 1, none⟩ = some (.int .i64 (u : Int)) := HQ.out.cell 1
    have q2 : W.cell? ⟨B, 2, none⟩ = some (.int .i64 (t : Int)) := HQ.out.cell 2
    have q3 : W.cell? ⟨B, 3, none⟩ = some (.int .i64 (h : Int)) := HQ.out.cell 3
    have q4 : W.cell? ⟨B, 4, none⟩ = some (.int .i64 (x : Int)) := HQ.out.cell 4
    have q5 : W.cell? ⟨B, 5, none⟩ = some (.int .i64 (y : Int)) := HQ.out.cell 5
    go_enter Try.func84, Try.ntmps84
    go_upto_region 1 with fail
    rw [← hW, ← hBB]
    clear hW hBB
    go_wp2_with fail
    refine Calls.mono (hnk.out _) ?_
    rintro e w0 ⟨rfl, hw0⟩
    subst hw0
    go_wp2_with fail
    refine Calls.mono (hup.out k p M cap xs _ (by omega) HBY.out HM.out (by omega)) ?_
    rintro e v1 ⟨p1, N1, c1, hN1, rfl, hl1, ho1, hb1⟩
    have HB1 : Hid (Below w0.heap.size w0 v1) := hb1
    have HO1 : Hid (OwnB v1 w.heap.size (.slice p1 N1 c1) (xs ++ sev k)) := ho1.mono (Nat.le_trans HBW.out.size (Nat.le_refl _))
    have HN1 := hid hN1
    clear q0 q1 q2 q3 q4 q5
    clear ho1 hb1 hN1
    have q0 : v1.cell? ⟨B, 0, none⟩ = some (.int .i64 (k : Int)) := (HQ.out.below HB1.out HQ.out.lt).cell 0
    have q1 : v1.cell? ⟨B, 1, none⟩ = some (.int .i64 (u : Int)) := (HQ.out.below HB1.out HQ.out.lt).cell 1
    have q2 : v1.cell? ⟨B, 2, none⟩ = some (.int .i64 (t : Int)) := (HQ.out.below HB1.out HQ.out.lt).cell 2
    have q3 : v1.cell? ⟨B, 3, none⟩ = some (.int .i64 (h : Int)) := (HQ.out.below HB1.out HQ.out.lt).cell 3
    have q4 : v1.cell? ⟨B, 4, none⟩ = some (.int .i64 (x : Int)) := (HQ.out.below HB1.out HQ.out.lt).cell 4
    have q5 : v1.cell? ⟨B, 5, none⟩ = some (.int .i64 (y : Int)) := (HQ.out.below HB1.out HQ.out.lt).cell 5
    go_wp2_with fail
    refine Calls.mono (hup.out u p1 N1 c1 (xs ++ sev k) _ (by omega) HO1.out.bytes HN1.out (by omega)) ?_
    rintro e v2 ⟨p2, N2, c2, hN2, rfl, hl2, ho2, hb2⟩
    have HB2 : Hid (Below w0.heap.size w0 v2) := HB1.out.trans (hb2.mono HB1.out.size)
    have HO2 : Hid (OwnB v2 w.heap.size (.slice p2 N2 c2) ((xs ++ sev k) ++ sev u)) := ho2.mono (Nat.le_trans HBW.out.size HB1.out.size)
    have HN2 := hid hN2
    clear q0 q1 q2 q3 q4 q5
    clear ho2 hb2 hN2
    have q0 : v2.cell? ⟨B, 0, none⟩ = some (.int .i64 (k : Int)) := (HQ.out.below HB2.out HQ.out.lt).cell 0
    have q1 : v2.cell? ⟨B, 1, none⟩ = some (.int .i64 (u : Int)) := (HQ.out.below HB2.out HQ.out.lt).cell 1
    have q2 : v2.cell? ⟨B, 2, none⟩ = some (.int .i64 (t : Int)) := (HQ.out.below HB2.out HQ.out.lt).cell 2
    have q3 : v2.cell? ⟨B, 3, none⟩ = some (.int .i64 (h : Int)) := (HQ.out.below HB2.out HQ.out.lt).cell 3
    have q4 : v2.cell? ⟨B, 4, none⟩ = some (.int .i64 (x : Int)) := (HQ.out.below HB2.out HQ.out.lt).cell 4
    have q5 : v2.cell? ⟨B, 5, none⟩ = some (.int .i64 (y : Int)) := (HQ.out.below HB2.out HQ.out.lt).cell 5
    go_wp2_with fail
    refine Calls.mono (hup.out x p2 N2 c2 ((xs ++ sev k) ++ sev u) _ (by omega) HO2.out.bytes HN2.out (by omega)) ?_
    rintro e v3 ⟨p3, N3, c3, hN3, rfl, hl3, ho3, hb3⟩
    have HB3 : Hid (Below w0.heap.size w0 v3) := HB2.out.trans (hb3.mono HB2.out.size)
    have HO3 : Hid (OwnB v3 w.heap.size (.slice p3 N3 c3) (((xs ++ sev k) ++ sev u) ++ sev x)) := ho3.mono (Nat.le_trans HBW.out.size HB2.out.size)
    have HN3 := hid hN3
    clear q0 q1 q2 q3 q4 q5
    clear ho3 hb3 hN3
    have q0 : v3.cell? ⟨B, 0, none⟩ = some (.int .i64 (k : Int)) := (HQ.out.below HB3.out HQ.out.lt).cell 0
    have q1 : v3.cell? ⟨B, 1, none⟩ = some (.int .i64 (u : Int)) := (HQ.out.below HB3.out HQ.out.lt).cell 1
    have q2 : v3.cell? ⟨B, 2, none⟩ = some (.int .i64 (t : Int)) := (HQ.out.below HB3.out HQ.out.lt).cell 2
    have q3 : v3.cell? ⟨B, 3, none⟩ = some (.int .i64 (h : Int)) := (HQ.out.below HB3.out HQ.out.lt).cell 3
    have q4 : v3.cell? ⟨B, 4, none⟩ = some (.int .i64 (x : Int)) := (HQ.out.below HB3.out HQ.out.lt).cell 4
    have q5 : v3.cell? ⟨B, 5, none⟩ = some (.int .i64 (y : Int)) := (HQ.out.below HB3.out HQ.out.lt).cell 5
    go_wp2_with fail
    refine Calls.mono (hup.out y p3 N3 c3 (((xs ++ sev k) ++ sev u) ++ sev x) _ (by omega) HO3.out.bytes HN3.out (by omega)) ?_
    rintro e v4 ⟨p4, N4, c4, hN4, rfl, hl4, ho4, hb4⟩
    have HB4 : Hid (Below w0.heap.size w0 v4) := HB3.out.trans (hb4.mono HB3.out.size)
    have HO4 : Hid (OwnB v4 w.heap.size (.slice p4 N4 c4) ((((xs ++ sev k) ++ sev u) ++ sev x) ++ sev y)) := ho4.mono (Nat.le_trans HBW.out.size HB3.out.size)
    have HN4 := hid hN4
    clear q0 q1 q2 q3 q4 q5
    clear ho4 hb4 hN4
    have q0 : v4.cell? ⟨B, 0, none⟩ = some (.int .i64 (k : Int)) := (HQ.out.below HB4.out HQ.out.lt).cell 0
    have q1 : v4.cell? ⟨B, 1, none⟩ = some (.int .i64 (u : Int)) := (HQ.out.below HB4.out HQ.out.lt).cell 1
    have q2 : v4.cell? ⟨B, 2, none⟩ = some (.int .i64 (t : Int)) := (HQ.out.below HB4.out HQ.out.lt).cell 2
    have q3 : v4.cell? ⟨B, 3, none⟩ = some (.int .i64 (h : Int)) := (HQ.out.below HB4.out HQ.out.lt).cell 3
    have q4 : v4.cell? ⟨B, 4, none⟩ = some (.int .i64 (x : Int)) := (HQ.out.below HB4.out HQ.out.lt).cell 4
    have q5 : v4.cell? ⟨B, 5, none⟩ = some (.int .i64 (y : Int)) := (HQ.out.below HB4.out HQ.out.lt).cell 5
    clear q0 q1 q2 q3 q4 q5
    go_wp2
    go_ret
    have HF := HO4.out
    have HG := HN4.out
    try simp only [List.append_assoc] at HF HG
    exact ⟨p4, N4, c4, HG, rfl, HF, HBW.out.trans (HB4.out.mono HBW.out.size)⟩
  · have hce : sev k ++ ((if nU (k : Int) then sev u else []) ++ ((if nT (k : Int) then sev t else []) ++ ((if nW (k : Int) then sev h else []) ++ (if nC (k : Int) then sev x ++ sev y else [])))) = sev k ++ (sev u ++ (sev t)) := by simp [q1, q2, q3, q4]
    rw [hce]
    clear hce
    simp only [q1, q2, q3, q4] at hnk
    clear q1 q2 q3 q4
    have q0 : W.cell? ⟨B, 0, none⟩ = some (.int .i64 (k : Int)) := HQ.out.cell 0
    have q1 : W.cell? ⟨B, 1, none⟩ = some (.int .i64 (u : Int)) := HQ.out.cell 1
    have q2 : W.cell? ⟨B, 2, none⟩ = some (.int .i64 (t : Int)) := HQ.out.cell 2
    have q3 : W.cell? ⟨B, 3, none⟩ = some (.int .i64 (h : Int)) := HQ.out.cell 3
    have q4 : W.cell? ⟨B, 4, none⟩ = some (.int .i64 (x : Int)) := HQ.out.cell 4
    have q5 : W.cell? ⟨B, 5, none⟩ = some (.int .i64 (y : Int)) := HQ.out.cell 5
    go_enter Try.func84, Try.ntmps84
    go_upto_region 1 with fail
    rw [← hW, ← hBB]
    clear hW hBB
    go_wp2_with fail
    refine Calls.mono (hnk.out _) ?_
    rintro e w0 ⟨rfl, hw0⟩
    subst hw0
    go_wp2_with fail
    refine Calls.mono (hup.out k p M cap xs _ (by omega) HBY.out HM.out (by omega)) ?_
    rintro e v1 ⟨p1, N1, c1, hN1, rfl, hl1, ho1, hb1⟩
    have HB1 : Hid (Below w0.heap.size w0 v1) := hb1
    have HO1 : Hid (OwnB v1 w.heap.size (.slice p1 N1 c1) (xs ++ sev k)) := ho1.mono (Nat.le_trans HBW.out.size (Nat.le_refl _))
    have HN1 := hid hN1
    clear q0 q1 q2 q3 q4 q5
    clear ho1 hb1 hN1
    have q0 : v1.cell? ⟨B, 0, none⟩ = some (.int .i64 (k : Int)) := (HQ.out.below HB1.out HQ.out.lt).cell 0
    have q1 : v1.cell? ⟨B, 1, none⟩ = some (.int .i64 (u : Int)) := (HQ.out.below HB1.out HQ.out.lt).cell 1
    have q2 : v1.cell? ⟨B, 2, none⟩ = some (.int .i64 (t : Int)) := (HQ.out.below HB1.out HQ.out.lt).cell 2
    have q3 : v1.cell? ⟨B, 3, none⟩ = some (.int .i64 (h : Int)) := (HQ.out.below HB1.out HQ.out.lt).cell 3
    have q4 : v1.cell? ⟨B, 4, none⟩ = some (.int .i64 (x : Int)) := (HQ.out.below HB1.out HQ.out.lt).cell 4
    have q5 : v1.cell? ⟨B, 5, none⟩ = some (.int .i64 (y : Int)) := (HQ.out.below HB1.out HQ.out.lt).cell 5
    go_wp2_with fail
    refine Calls.mono (hup.out u p1 N1 c1 (xs ++ sev k) _ (by omega) HO1.out.bytes HN1.out (by omega)) ?_
    rintro e v2 ⟨p2, N2, c2, hN2, rfl, hl2, ho2, hb2⟩
    have HB2 : Hid (Below w0.heap.size w0 v2) := HB1.out.trans (hb2.mono HB1.out.size)
    have HO2 : Hid (OwnB v2 w.heap.size (.slice p2 N2 c2) ((xs ++ sev k) ++ sev u)) := ho2.mono (Nat.le_trans HBW.out.size HB1.out.size)
    have HN2 := hid hN2
    clear q0 q1 q2 q3 q4 q5
    clear ho2 hb2 hN2
    have q0 : v2.cell? ⟨B, 0, none⟩ = some (.int .i64 (k : Int)) := (HQ.out.below HB2.out HQ.out.lt).cell 0
    have q1 : v2.cell? ⟨B, 1, none⟩ = some (.int .i64 (u : Int)) := (HQ.out.below HB2.out HQ.out.lt).cell 1
    have q2 : v2.cell? ⟨B, 2, none⟩ = some (.int .i64 (t : Int)) := (HQ.out.below HB2.out HQ.out.lt).cell 2
    have q3 : v2.cell? ⟨B, 3, none⟩ = some (.int .i64 (h : Int)) := (HQ.out.below HB2.out HQ.out.lt).cell 3
    have q4 : v2.cell? ⟨B, 4, none⟩ = some (.int .i64 (x : Int)) := (HQ.out.below HB2.out HQ.out.lt).cell 4
    have q5 : v2.cell? ⟨B, 5, none⟩ = some (.int .i64 (y : Int)) := (HQ.out.below HB2.out HQ.out.lt).cell 5
    go_wp2_with fail
    refine Calls.mono (hup.out t p2 N2 c2 ((xs ++ sev k) ++ sev u) _ (by omega) HO2.out.bytes HN2.out (by omega)) ?_
    rintro e v3 ⟨p3, N3, c3, hN3, rfl, hl3, ho3, hb3⟩
    have HB3 : Hid (Below w0.heap.size w0 v3) := HB2.out.trans (hb3.mono HB2.out.size)
    have HO3 : Hid (OwnB v3 w.heap.size (.slice p3 N3 c3) (((xs ++ sev k) ++ sev u) ++ sev t)) := ho3.mono (Nat.le_trans HBW.out.size HB2.out.size)
    have HN3 := hid hN3
    clear q0 q1 q2 q3 q4 q5
    clear ho3 hb3 hN3
    have q0 : v3.cell? ⟨B, 0, none⟩ = some (.int .i64 (k : Int)) := (HQ.out.below HB3.out HQ.out.lt).cell 0
    have q1 : v3.cell? ⟨B, 1, none⟩ = some (.int .i64 (u : Int)) := (HQ.out.below HB3.out HQ.out.lt).cell 1
    have q2 : v3.cell? ⟨B, 2, none⟩ = some (.int .i64 (t : Int)) := (HQ.out.below HB3.out HQ.out.lt).cell 2
    have q3 : v3.cell? ⟨B, 3, none⟩ = some (.int .i64 (h : Int)) := (HQ.out.below HB3.out HQ.out.lt).cell 3
    have q4 : v3.cell? ⟨B, 4, none⟩ = some (.int .i64 (x : Int)) := (HQ.out.below HB3.out HQ.out.lt).cell 4
    have q5 : v3.cell? ⟨B, 5, none⟩ = some (.int .i64 (y : Int)) := (HQ.out.below HB3.out HQ.out.lt).cell 5
    clear q0 q1 q2 q3 q4 q5
    go_wp2
    go_ret
    have HF := HO3.out
    have HG := HN3.out
    try simp only [List.append_assoc] at HF HG
    exact ⟨p3, N3, c3, HG, rfl, HF, HBW.out.trans (HB3.out.mono HBW.out.size)⟩
  · have hce : sev k ++ ((if nU (k : Int) then sev u else []) ++ ((if nT (k : Int) then sev t else []) ++ ((if nW (k : Int) then sev h else []) ++ (if nC (k : Int) then sev x ++ sev y else [])))) = sev k ++ (sev u ++ (sev h)) := by simp [q1, q2, q3, q4]
    rw [hce]
    clear hce
    simp only [q1, q2, q3, q4] at hnk
    clear q1 q2 q3 q4
    have q0 : W.cell? ⟨B, 0, none⟩ = some (.int .i64 (k : Int)) := HQ.out.cell 0
    have q1 : W.cell? ⟨B, 1, none⟩ = some (.int .i64 (u : Int)) := HQ.out.cell 1
    have q2 : W.cell? ⟨B, 2, none⟩ = some (.int .i64 (t : Int)) := HQ.out.cell 2
    have q3 : W.cell? ⟨B, 3, none⟩ = some (.int .i64 (h : Int)) := HQ.out.cell 3
    have q4 : W.cell? ⟨B, 4, none⟩ = some (.int .i64 (x : Int)) := HQ.out.cell 4
    have q5 : W.cell? ⟨B, 5, none⟩ = some (.int .i64 (y : Int)) := HQ.out.cell 5
    go_enter Try.func84, Try.ntmps84
    go_upto_region 1 with fail
    rw [← hW, ← hBB]
    clear hW hBB
    go_wp2_with fail
    refine Calls.mono (hnk.out _) ?_
    rintro e w0 ⟨rfl, hw0⟩
    subst hw0
    go_wp2_with fail
    refine Calls.mono (hup.out k p M cap xs _ (by omega) HBY.out HM.out (by omega)) ?_
    rintro e v1 ⟨p1, N1, c1, hN1, rfl, hl1, ho1, hb1⟩
    have HB1 : Hid (Below w0.heap.size w0 v1) := hb1
    have HO1 : Hid (OwnB v1 w.heap.size (.slice p1 N1 c1) (xs ++ sev k)) := ho1.mono (Nat.le_trans HBW.out.size (Nat.le_refl _))
    have HN1 := hid hN1
    clear q0 q1 q2 q3 q4 q5
    clear ho1 hb1 hN1
    have q0 : v1.cell? ⟨B, 0, none⟩ = some (.int .i64 (k : Int)) := (HQ.out.below HB1.out HQ.out.lt).cell 0
    have q1 : v1.cell? ⟨B, 1, none⟩ = some (.int .i64 (u : Int)) := (HQ.out.below HB1.out HQ.out.lt).cell 1
    have q2 : v1.cell? ⟨B, 2, none⟩ = some (.int .i64 (t : Int)) := (HQ.out.below HB1.out HQ.out.lt).cell 2
    have q3 : v1.cell? ⟨B, 3, none⟩ = some (.int .i64 (h : Int)) := (HQ.out.below HB1.out HQ.out.lt).cell 3
    have q4 : v1.cell? ⟨B, 4, none⟩ = some (.int .i64 (x : Int)) := (HQ.out.below HB1.out HQ.out.lt).cell 4
    have q5 : v1.cell? ⟨B, 5, none⟩ = some (.int .i64 (y : Int)) := (HQ.out.below HB1.out HQ.out.lt).cell 5
    go_wp2_with fail
    refine Calls.mono (hup.out u p1 N1 c1 (xs ++ sev k) _ (by omega) HO1.out.bytes HN1.out (by omega)) ?_
    rintro e v2 ⟨p2, N2, c2, hN2, rfl, hl2, ho2, hb2⟩
    have HB2 : Hid (Below w0.heap.size w0 v2) := HB1.out.trans (hb2.mono HB1.out.size)
    have HO2 : Hid (OwnB v2 w.heap.size (.slice p2 N2 c2) ((xs ++ sev k) ++ sev u)) := ho2.mono (Nat.le_trans HBW.out.size HB1.out.size)
    have HN2 := hid hN2
    clear q0 q1 q2 q3 q4 q5
    clear ho2 hb2 hN2
    have q0 : v2.cell? ⟨B, 0, none⟩ = some (.int .i64 (k : Int)) := (HQ.out.below HB2.out HQ.out.lt).cell 0
    have q1 : v2.cell? ⟨B, 1, none⟩ = some (.int .i64 (u : Int)) := (HQ.out.below HB2.out HQ.out.lt).cell 1
    have q2 : v2.cell? ⟨B, 2, none⟩ = some (.int .i64 (t : Int)) := (HQ.out.below HB2.out HQ.out.lt).cell 2
    have q3 : v2.cell? ⟨B, 3, none⟩ = some (.int .i64 (h : Int)) := (HQ.out.below HB2.out HQ.out.lt).cell 3
    have q4 : v2.cell? ⟨B, 4, none⟩ = some (.int .i64 (x : Int)) := (HQ.out.below HB2.out HQ.out.lt).cell 4
    have q5 : v2.cell? ⟨B, 5, none⟩ = some (.int .i64 (y : Int)) := (HQ.out.below HB2.out HQ.out.lt).cell 5
    go_wp2_with fail
    refine Calls.mono (hup.out h p2 N2 c2 ((xs ++ sev k) ++ sev u) _ (by omega) HO2.out.bytes HN2.out (by omega)) ?_
    rintro e v3 ⟨p3, N3, c3, hN3, rfl, hl3, ho3, hb3⟩
    have HB3 : Hid (Below w0.heap.size w0 v3) := HB2.out.trans (hb3.mono HB2.out.size)
    have HO3 : Hid (OwnB v3 w.heap.size (.slice p3 N3 c3) (((xs ++ sev k) ++ sev u) ++ sev h)) := ho3.mono (Nat.le_trans HBW.out.size HB2.out.size)
    have HN3 := hid hN3
    clear q0 q1 q2 q3 q4 q5
    clear ho3 hb3 hN3
    have q0 : v3.cell? ⟨B, 0, none⟩ = some (.int .i64 (k : Int)) := (HQ.out.below HB3.out HQ.out.lt).cell 0
    have q1 : v3.cell? ⟨B, 1, none⟩ = some (.int .i64 (u : Int)) := (HQ.out.below HB3.out HQ.out.lt).cell 1
    have q2 : v3.cell? ⟨B, 2, none⟩ = some (.int .i64 (t : Int)) := (HQ.out.below HB3.out HQ.out.lt).cell 2
    have q3 : v3.cell? ⟨B, 3, none⟩ = some (.int .i64 (h : Int)) := (HQ.out.below HB3.out HQ.out.lt).cell 3
    have q4 : v3.cell? ⟨B, 4, none⟩ = some (.int .i64 (x : Int)) := (HQ.out.below HB3.out HQ.out.lt).cell 4
    have q5 : v3.cell? ⟨B, 5, none⟩ = some (.int .i64 (y : Int)) := (HQ.out.below HB3.out HQ.out.lt).cell 5
    clear q0 q1 q2 q3 q4 q5
    go_wp2
    go_ret
    have HF := HO3.out
    have HG := HN3.out
    try simp only [List.append_assoc] at HF HG
    exact ⟨p3, N3, c3, HG, rfl, HF, HBW.out.trans (HB3.out.mono HBW.out.size)⟩
  · have hce : sev k ++ ((if nU (k : Int) then sev u else []) ++ ((if nT (k : Int) then sev t else []) ++ ((if nW (k : Int) then sev h else []) ++ (if nC (k : Int) then sev x ++ sev y else [])))) = sev k ++ (sev u) := by simp [q1, q2, q3, q4]
    rw [hce]
    clear hce
    simp only [q1, q2, q3, q4] at hnk
    clear q1 q2 q3 q4
    have q0 : W.cell? ⟨B, 0, none⟩ = some (.int .i64 (k : Int)) := HQ.out.cell 0
    have q1 : W.cell? ⟨B, 1, none⟩ = some (.int .i64 (u : Int)) := HQ.out.cell 1
    have q2 : W.cell? ⟨B, 2, none⟩ = some (.int .i64 (t : Int)) := HQ.out.cell 2
    have q3 : W.cell? ⟨B, 3, none⟩ = some (.int .i64 (h : Int)) := HQ.out.cell 3
    have q4 : W.cell? ⟨B, 4, none⟩ = some (.int .i64 (x : Int)) := HQ.out.cell 4
    have q5 : W.cell? ⟨B, 5, none⟩ = some (.int .i64 (y : Int)) := HQ.out.cell 5
    go_enter Try.func84, Try.ntmps84
    go_upto_region 1 with fail
    rw [← hW, ← hBB]
    clear hW hBB
    go_wp2_with fail
    refine Calls.mono (hnk.out _) ?_
    rintro e w0 ⟨rfl, hw0⟩
    subst hw0
    go_wp2_with fail
    refine Calls.mono (hup.out k p M cap xs _ (by omega) HBY.out HM.out (by omega)) ?_
    rintro e v1 ⟨p1, N1, c1, hN1, rfl, hl1, ho1, hb1⟩
    have HB1 : Hid (Below w0.heap.size w0 v1) := hb1
    have HO1 : Hid (OwnB v1 w.heap.size (.slice p1 N1 c1) (xs ++ sev k)) := ho1.mono (Nat.le_trans HBW.out.size (Nat.le_refl _))
    have HN1 := hid hN1
    clear q0 q1 q2 q3 q4 q5
    clear ho1 hb1 hN1
    have q0 : v1.cell? ⟨B, 0, none⟩ = some (.int .i64 (k : Int)) := (HQ.out.below HB1.out HQ.out.lt).cell 0
    have q1 : v1.cell? ⟨B, 1, none⟩ = some (.int .i64 (u : Int)) := (HQ.out.below HB1.out HQ.out.lt).cell 1
    have q2 : v1.cell? ⟨B, 2, none⟩ = some (.int .i64 (t : Int)) := (HQ.out.below HB1.out HQ.out.lt).cell 2
    have q3 : v1.cell? ⟨B, 3, none⟩ = some (.int .i64 (h : Int)) := (HQ.out.below HB1.out HQ.out.lt).cell 3
    have q4 : v1.cell? ⟨B, 4, none⟩ = some (.int .i64 (x : Int)) := (HQ.out.below HB1.out HQ.out.lt).cell 4
    have q5 : v1.cell? ⟨B, 5, none⟩ = some (.int .i64 (y : Int)) := (HQ.out.below HB1.out HQ.out.lt).cell 5
    go_wp2_with fail
    refine Calls.mono (hup.out u p1 N1 c1 (xs ++ sev k) _ (by omega) HO1.out.bytes HN1.out (by omega)) ?_
    rintro e v2 ⟨p2, N2, c2, hN2, rfl, hl2, ho2, hb2⟩
    have HB2 : Hid (Below w0.heap.size w0 v2) := HB1.out.trans (hb2.mono HB1.out.size)
    have HO2 : Hid (OwnB v2 w.heap.size (.slice p2 N2 c2) ((xs ++ sev k) ++ sev u)) := ho2.mono (Nat.le_trans HBW.out.size HB1.out.size)
    have HN2 := hid hN2
    clear q0 q1 q2 q3 q4 q5
    clear ho2 hb2 hN2
    have q0 : v2.cell? ⟨B, 0, none⟩ = some (.int .i64 (k : Int)) := (HQ.out.below HB2.out HQ.out.lt).cell 0
    have q1 : v2.cell? ⟨B, 1, none⟩ = some (.int .i64 (u : Int)) := (HQ.out.below HB2.out HQ.out.lt).cell 1
    have q2 : v2.cell? ⟨B, 2, none⟩ = some (.int .i64 (t : Int)) := (HQ.out.below HB2.out HQ.out.lt).cell 2
    have q3 : v2.cell? ⟨B, 3, none⟩ = some (.int .i64 (h : Int)) := (HQ.out.below HB2.out HQ.out.lt).cell 3
    have q4 : v2.cell? ⟨B, 4, none⟩ = some (.int .i64 (x : Int)) := (HQ.out.below HB2.out HQ.out.lt).cell 4
    have q5 : v2.cell? ⟨B, 5, none⟩ = some (.int .i64 (y : Int)) := (HQ.out.below HB2.out HQ.out.lt).cell 5
    clear q0 q1 q2 q3 q4 q5
    go_wp2
    go_ret
    have HF := HO2.out
    have HG := HN2.out
    try simp only [List.append_assoc] at HF HG
    exact ⟨p2, N2, c2, HG, rfl, HF, HBW.out.trans (HB2.out.mono HBW.out.size)⟩
  · have hce : sev k ++ ((if nU (k : Int) then sev u else []) ++ ((if nT (k : Int) then sev t else []) ++ ((if nW (k : Int) then sev h else []) ++ (if nC (k : Int) then sev x ++ sev y else [])))) = sev k := by simp [q1, q2, q3, q4]
    rw [hce]
    clear hce
    simp only [q1, q2, q3, q4] at hnk
    clear q1 q2 q3 q4
    have q0 : W.cell? ⟨B, 0, none⟩ = some (.int .i64 (k : Int)) := HQ.out.cell 0
    have q1 : W.cell? ⟨B, 1, none⟩ = some (.int .i64 (u : Int)) := HQ.out.cell 1
    have q2 : W.cell? ⟨B, 2, none⟩ = some (.int .i64 (t : Int)) := HQ.out.cell 2
    have q3 : W.cell? ⟨B, 3, none⟩ = some (.int .i64 (h : Int)) := HQ.out.cell 3
    have q4 : W.cell? ⟨B, 4, none⟩ = some (.int .i64 (x : Int)) := HQ.out.cell 4
    have q5 : W.cell? ⟨B, 5, none⟩ = some (.int .i64 (y : Int)) := HQ.out.cell 5
    go_enter Try.func84, Try.ntmps84
    go_upto_region 1 with fail
    rw [← hW, ← hBB]
    clear hW hBB
    go_wp2_with fail
    refine Calls.mono (hnk.out _) ?_
    rintro e w0 ⟨rfl, hw0⟩
    subst hw0
    go_wp2_with fail
    refine Calls.mono (hup.out k p M cap xs _ (by omega) HBY.out HM.out (by omega)) ?_
    rintro e v1 ⟨p1, N1, c1, hN1, rfl, hl1, ho1, hb1⟩
    have HB1 : Hid (Below w0.heap.size w0 v1) := hb1
    have HO1 : Hid (OwnB v1 w.heap.size (.slice p1 N1 c1) (xs ++ sev k)) := ho1.mono (Nat.le_trans HBW.out.size (Nat.le_refl _))
    have HN1 := hid hN1
    clear q0 q1 q2 q3 q4 q5
    clear ho1 hb1 hN1
    have q0 : v1.cell? ⟨B, 0, none⟩ = some (.int .i64 (k : Int)) := (HQ.out.below HB1.out HQ.out.lt).cell 0
    have q1 : v1.cell? ⟨B, 1, none⟩ = some (.int .i64 (u : Int)) := (HQ.out.below HB1.out HQ.out.lt).cell 1
    have q2 : v1.cell? ⟨B, 2, none⟩ = some (.int .i64 (t : Int)) := (HQ.out.below HB1.out HQ.out.lt).cell 2
    have q3 : v1.cell? ⟨B, 3, none⟩ = some (.int .i64 (h : Int)) := (HQ.out.below HB1.out HQ.out.lt).cell 3
    have q4 : v1.cell? ⟨B, 4, none⟩ = some (.int .i64 (x : Int)) := (HQ.out.below HB1.out HQ.out.lt).cell 4
    have q5 : v1.cell? ⟨B, 5, none⟩ = some (.int .i64 (y : Int)) := (HQ.out.below HB1.out HQ.out.lt).cell 5
    clear q0 q1 q2 q3 q4 q5
    go_wp2
    go_ret
    have HF := HO1.out
    have HG := HN1.out
    try simp only [List.append_assoc] at HF HG
    exact ⟨p1, N1, c1, HG, rfl, HF, HBW.out.trans (HB1.out.mono HBW.out.size)⟩
end Go.Proofs.Ytpiflgbcbhnmpaa
