/- What appendCommand answers. -/
import Derived.Test.YtpiflgbcbhnmpaaWr
namespace Go.Proofs.Ytpiflgbcbhnmpaa
open Go.RowKit
theorem Gro.ne {w w' : World} {v v' : Value} (h : Gro w v w' v') {g : Nat} (hg : g < w.heap.size) (hn : v.ownBlock ≠ some g) : v'.ownBlock ≠ some g := by
  rcases h.pl with h1 | h1
  · rw [h1]; exact hn
  · intro he; have := h1 g he; omega
/-- What a command is written in. -/
structure Wst (w0 : World) (v0 : Value) (base B N : Nat) (cb nb : List Value) (w : World) (v : Value) (L : List Nat) : Prop where
  own : OwnB w base v L
  gro : Gro w0 v0 w v
  bx : Blk w B cb 52
  nm : Blk w N nb 118
  n1 : v.ownBlock ≠ some B
  n2 : v.ownBlock ≠ some N
  lo : base ≤ w.heap.size
theorem Wst.step {w0 : World} {v0 : Value} {base B N : Nat} {cb nb : List Value} {w w' : World} {v v' : Value} {L L' : List Nat} (h : Wst w0 v0 base B N cb nb w v L) (ho : OwnB w' base v' L') (hg : Gro w v w' v') : Wst w0 v0 base B N cb nb w' v' L' :=
  ⟨ho, h.gro.trans hg, hg.blk h.bx h.n1, hg.blk h.nm h.n2, hg.ne h.bx.lt h.n1, hg.ne h.nm.lt h.n2, Nat.le_trans h.lo hg.size⟩
/-- A command's bytes. -/
def cmdB (k u t h x y : Nat) : List Nat := sev k ++ ((if nU (k : Int) then sev u else []) ++ ((if nT (k : Int) then sev t else []) ++ ((if nW (k : Int) then sev h else []) ++ (if nC (k : Int) then sev x ++ sev y else []))))
set_option maxRecDepth 100000 in
set_option maxHeartbeats 4000000 in
theorem appendCommand87 (k u t h x y : Nat) (hk : k < 1000) (hu : u < 4294967296) (ht : t < 4294967296) (hh : h < 1000) (hx : x < 1000) (hy : y < 1000) (xs : List Nat) (base : Nat) (p : Option Addr) (M cap : Nat) (w : World) (hM : M = xs.length) (ho : OwnB w base (.slice p M cap) xs) (hbase : base ≤ w.heap.size) (hsz : M < 100000000000) :
    Calls Try.prog 87 #[.slice p M cap, .agg #[.int .i64 (k : Int), .int .i64 (u : Int), .int .i64 (t : Int), .int .i64 (h : Int), .int .i64 (x : Int), .int .i64 (y : Int)]] w fun e w' => OutG w (.slice p M cap) base (xs ++ cmdB k u t h x y) e w' := by
  have hnk := hid (namedBy_any (k : Int))
  have hup := hid (show ∀ (B N : Nat) (cb nb : List Value) (n : Nat) (p1 : Option Addr) (N1 c1 : Nat) (L : List Nat) (W : World), n < 9223372036854775808 → Wst w (.slice p M cap) base B N cb nb W (.slice p1 N1 c1) L → N1 = L.length → N1 < 1000000000000 → Calls Try.prog 85 #[.slice p1 N1 c1, .int .i64 (n : Int)] W fun e w' => ∃ p2 N2 c2, N2 = (L ++ sev n).length ∧ e = .returned (.slice p2 N2 c2) ∧ N2 ≤ N1 + 10 ∧ Wst w (.slice p M cap) base B N cb nb w' (.slice p2 N2 c2) (L ++ sev n) from fun B N cb nb n p1 N1 c1 L W hn hS hN1 hb => (appendInt85 n hn L base p1 N1 c1 W hN1 hS.own hS.lo hb).mono fun _ _ ⟨p2, N2, c2, a1, a2, a3, a4⟩ => ⟨p2, N2, c2, a1, a2, by rw [a1, List.length_append, ← hN1]; have := sev_len10 (n := n) (by omega); omega, hS.step a3 a4⟩)
  have hcase : (nU (k : Int) = true ∧ nT (k : Int) = false ∧ nW (k : Int) = false ∧ nC (k : Int) = true) ∨ (nU (k : Int) = true ∧ nT (k : Int) = true ∧ nW (k : Int) = false ∧ nC (k : Int) = false) ∨ (nU (k : Int) = true ∧ nT (k : Int) = false ∧ nW (k : Int) = true ∧ nC (k : Int) = false) ∨ (nU (k : Int) = true ∧ nT (k : Int) = false ∧ nW (k : Int) = false ∧ nC (k : Int) = false) ∨ (nU (k : Int) = false ∧ nT (k : Int) = false ∧ nW (k : Int) = false ∧ nC (k : Int) = false) := by
    have hc : (k : Int) = 1 ∨ (k : Int) = 2 ∨ (k : Int) = 3 ∨ (k : Int) = 4 ∨ (k : Int) = 5 ∨ (((k : Int) == 1) = false ∧ ((k : Int) == 2) = false ∧ ((k : Int) == 3) = false ∧ ((k : Int) == 4) = false ∧ ((k : Int) == 5) = false) := by simp; omega
    rcases hc with h | h | h | h | h | ⟨h1, h2, h3, h4, h5⟩
    case' inr.inr.inr.inr.inr => simp [nU, nT, nW, nC, h1, h2, h3, h4, h5]
    all_goals
      rw [h]
      decide
  unfold cmdB
  have HO := hid ho
  have HM := hid hM
  clear ho hM
  rcases hcase with ⟨q1, q2, q3, q4⟩ | ⟨q1, q2, q3, q4⟩ | ⟨q1, q2, q3, q4⟩ | ⟨q1, q2, q3, q4⟩ | ⟨q1, q2, q3, q4⟩
  · simp only [q1, q2, q3, q4, if_true, Bool.false_eq_true, if_false, List.nil_append]
    simp only [q1, q2, q3, q4] at hnk
    clear q1 q2 q3 q4
    go_enter Try.func87, Try.ntmps87
    go_wp2_with fail
    refine Calls.mono (hnk.out _) ?_
    rintro e w2 ⟨rfl, hb2⟩
    have hbx0 := (Blk.new w [.int .i64 (k : Int), .int .i64 (u : Int), .int .i64 (t : Int), .int .i64 (h : Int), .int .i64 (x : Int), .int .i64 (y : Int)] 52).below hb2 (by simp)
    have hbw : Below w.heap.size w w2 := ((Below.refl _ _).alloc (Nat.le_refl _) _).trans (hb2.mono (by simp))
    have S0 : Hid (Wst w (.slice p M cap) base w.heap.size w2.heap.size [.int .i64 (k : Int), .int .i64 (u : Int), .int .i64 (t : Int), .int .i64 (h : Int), .int .i64 (x : Int), .int .i64 (y : Int)] [.bool true, .bool false, .bool false, .bool true] (w2.alloc (.cells ([.bool true, .bool false, .bool false, .bool true] : List Value).toArray 118)) (.slice p M cap) xs) := by
      have hal : Below w2.heap.size w2 (w2.alloc (.cells ([.bool true, .bool false, .bool false, .bool true] : List Value).toArray 118)) := (Below.refl _ _).alloc (Nat.le_refl _) _
      exact ⟨(HO.out.below hbw).below hal, ((Gro.refl w _).keep hbw).keep hal, hbx0.alloc _, Blk.new _ _ _, fun he => by have := (HO.out.block _ he).2; omega, fun he => by have := (HO.out.block _ he).2; have := hbw.size; omega, Nat.le_trans hbase (Nat.le_trans hbw.size hal.size)⟩
    clear hb2 hbw hnk hbx0
    have b1x := S0.out.bx
    have b10 := b1x.cell 0
    rw [show ([.int .i64 (k : Int), .int .i64 (u : Int), .int .i64 (t : Int), .int .i64 (h : Int), .int .i64 (x : Int), .int .i64 (y : Int)] : List Value)[0]? = some _ from rfl] at b10
    have b11 := b1x.cell 1
    rw [show ([.int .i64 (k : Int), .int .i64 (u : Int), .int .i64 (t : Int), .int .i64 (h : Int), .int .i64 (x : Int), .int .i64 (y : Int)] : List Value)[1]? = some _ from rfl] at b11
    have b12 := b1x.cell 2
    rw [show ([.int .i64 (k : Int), .int .i64 (u : Int), .int .i64 (t : Int), .int .i64 (h : Int), .int .i64 (x : Int), .int .i64 (y : Int)] : List Value)[2]? = some _ from rfl] at b12
    have b13 := b1x.cell 3
    rw [show ([.int .i64 (k : Int), .int .i64 (u : Int), .int .i64 (t : Int), .int .i64 (h : Int), .int .i64 (x : Int), .int .i64 (y : Int)] : List Value)[3]? = some _ from rfl] at b13
    have b14 := b1x.cell 4
    rw [show ([.int .i64 (k : Int), .int .i64 (u : Int), .int .i64 (t : Int), .int .i64 (h : Int), .int .i64 (x : Int), .int .i64 (y : Int)] : List Value)[4]? = some _ from rfl] at b14
    have b15 := b1x.cell 5
    rw [show ([.int .i64 (k : Int), .int .i64 (u : Int), .int .i64 (t : Int), .int .i64 (h : Int), .int .i64 (x : Int), .int .i64 (y : Int)] : List Value)[5]? = some _ from rfl] at b15
    have n10 := S0.out.nm.cell 0
    rw [show ([.bool true, .bool false, .bool false, .bool true] : List Value)[0]? = some _ from rfl] at n10
    have n11 := S0.out.nm.cell 1
    rw [show ([.bool true, .bool false, .bool false, .bool true] : List Value)[1]? = some _ from rfl] at n11
    have n12 := S0.out.nm.cell 2
    rw [show ([.bool true, .bool false, .bool false, .bool true] : List Value)[2]? = some _ from rfl] at n12
    have n13 := S0.out.nm.cell 3
    rw [show ([.bool true, .bool false, .bool false, .bool true] : List Value)[3]? = some _ from rfl] at n13
    clear b1x
    have call1 := hid (hup.out _ _ _ _ k p M cap xs _ (by omega) S0.out HM.out (by omega))
    go_wp2_with fail
    refine Calls.mono call1.out ?_
    rintro e w3 ⟨p1, N1, c1, hN1, rfl, hl1, T1⟩
    obtain ⟨NB, hNB⟩ : ∃ NB, NB = w2.heap.size := ⟨_, rfl⟩
    rw [← hNB] at T1
    simp only [← hNB]
    clear hNB
    have S1 := hid T1
    have HN1 := hid hN1
    clear T1 hN1 S0 call1 b10 b11 b12 b13 b14 b15 n10 n11 n12 n13
    have b2x := S1.out.bx
    have b20 := b2x.cell 0
    rw [show ([.int .i64 (k : Int), .int .i64 (u : Int), .int .i64 (t : Int), .int .i64 (h : Int), .int .i64 (x : Int), .int .i64 (y : Int)] : List Value)[0]? = some _ from rfl] at b20
    have b21 := b2x.cell 1
    rw [show ([.int .i64 (k : Int), .int .i64 (u : Int), .int .i64 (t : Int), .int .i64 (h : Int), .int .i64 (x : Int), .int .i64 (y : Int)] : List Value)[1]? = some _ from rfl] at b21
    have b22 := b2x.cell 2
    rw [show ([.int .i64 (k : Int), .int .i64 (u : Int), .int .i64 (t : Int), .int .i64 (h : Int), .int .i64 (x : Int), .int .i64 (y : Int)] : List Value)[2]? = some _ from rfl] at b22
    have b23 := b2x.cell 3
    rw [show ([.int .i64 (k : Int), .int .i64 (u : Int), .int .i64 (t : Int), .int .i64 (h : Int), .int .i64 (x : Int), .int .i64 (y : Int)] : List Value)[3]? = some _ from rfl] at b23
    have b24 := b2x.cell 4
    rw [show ([.int .i64 (k : Int), .int .i64 (u : Int), .int .i64 (t : Int), .int .i64 (h : Int), .int .i64 (x : Int), .int .i64 (y : Int)] : List Value)[4]? = some _ from rfl] at b24
    have b25 := b2x.cell 5
    rw [show ([.int .i64 (k : Int), .int .i64 (u : Int), .int .i64 (t : Int), .int .i64 (h : Int), .int .i64 (x : Int), .int .i64 (y : Int)] : List Value)[5]? = some _ from rfl] at b25
    have n20 := S1.out.nm.cell 0
    rw [show ([.bool true, .bool false, .bool false, .bool true] : List Value)[0]? = some _ from rfl] at n20
    have n21 := S1.out.nm.cell 1
    rw [show ([.bool true, .bool false, .bool false, .bool true] : List Value)[1]? = some _ from rfl] at n21
    have n22 := S1.out.nm.cell 2
    rw [show ([.bool true, .bool false, .bool false, .bool true] : List Value)[2]? = some _ from rfl] at n22
    have n23 := S1.out.nm.cell 3
    rw [show ([.bool true, .bool false, .bool false, .bool true] : List Value)[3]? = some _ from rfl] at n23
    clear b2x
    have call2 := hid (hup.out _ _ _ _ u p1 N1 c1 (xs ++ sev k) _ (by omega) S1.out HN1.out (by omega))
    go_wp2_with fail
    refine Calls.mono call2.out ?_
    rintro e w4 ⟨p2, N2, c2, hN2, rfl, hl2, T2⟩
    have S2 := hid T2
    have HN2 := hid hN2
    clear T2 hN2 S1 call2 b20 b21 b22 b23 b24 b25 n20 n21 n22 n23
    have b3x := S2.out.bx
    have b30 := b3x.cell 0
    rw [show ([.int .i64 (k : Int), .int .i64 (u : Int), .int .i64 (t : Int), .int .i64 (h : Int), .int .i64 (x : Int), .int .i64 (y : Int)] : List Value)[0]? = some _ from rfl] at b30
    have b31 := b3x.cell 1
    rw [show ([.int .i64 (k : Int), .int .i64 (u : Int), .int .i64 (t : Int), .int .i64 (h : Int), .int .i64 (x : Int), .int .i64 (y : Int)] : List Value)[1]? = some _ from rfl] at b31
    have b32 := b3x.cell 2
    rw [show ([.int .i64 (k : Int), .int .i64 (u : Int), .int .i64 (t : Int), .int .i64 (h : Int), .int .i64 (x : Int), .int .i64 (y : Int)] : List Value)[2]? = some _ from rfl] at b32
    have b33 := b3x.cell 3
    rw [show ([.int .i64 (k : Int), .int .i64 (u : Int), .int .i64 (t : Int), .int .i64 (h : Int), .int .i64 (x : Int), .int .i64 (y : Int)] : List Value)[3]? = some _ from rfl] at b33
    have b34 := b3x.cell 4
    rw [show ([.int .i64 (k : Int), .int .i64 (u : Int), .int .i64 (t : Int), .int .i64 (h : Int), .int .i64 (x : Int), .int .i64 (y : Int)] : List Value)[4]? = some _ from rfl] at b34
    have b35 := b3x.cell 5
    rw [show ([.int .i64 (k : Int), .int .i64 (u : Int), .int .i64 (t : Int), .int .i64 (h : Int), .int .i64 (x : Int), .int .i64 (y : Int)] : List Value)[5]? = some _ from rfl] at b35
    have n30 := S2.out.nm.cell 0
    rw [show ([.bool true, .bool false, .bool false, .bool true] : List Value)[0]? = some _ from rfl] at n30
    have n31 := S2.out.nm.cell 1
    rw [show ([.bool true, .bool false, .bool false, .bool true] : List Value)[1]? = some _ from rfl] at n31
    have n32 := S2.out.nm.cell 2
    rw [show ([.bool true, .bool false, .bool false, .bool true] : List Value)[2]? = some _ from rfl] at n32
    have n33 := S2.out.nm.cell 3
    rw [show ([.bool true, .bool false, .bool false, .bool true] : List Value)[3]? = some _ from rfl] at n33
    clear b3x
    have call3 := hid (hup.out _ _ _ _ x p2 N2 c2 ((xs ++ sev k) ++ sev u) _ (by omega) S2.out HN2.out (by omega))
    go_wp2_with fail
    refine Calls.mono call3.out ?_
    rintro e w5 ⟨p3, N3, c3, hN3, rfl, hl3, T3⟩
    have S3 := hid T3
    have HN3 := hid hN3
    clear T3 hN3 S2 call3 b30 b31 b32 b33 b34 b35 n30 n31 n32 n33
    have b4x := S3.out.bx
    have b40 := b4x.cell 0
    rw [show ([.int .i64 (k : Int), .int .i64 (u : Int), .int .i64 (t : Int), .int .i64 (h : Int), .int .i64 (x : Int), .int .i64 (y : Int)] : List Value)[0]? = some _ from rfl] at b40
    have b41 := b4x.cell 1
    rw [show ([.int .i64 (k : Int), .int .i64 (u : Int), .int .i64 (t : Int), .int .i64 (h : Int), .int .i64 (x : Int), .int .i64 (y : Int)] : List Value)[1]? = some _ from rfl] at b41
    have b42 := b4x.cell 2
    rw [show ([.int .i64 (k : Int), .int .i64 (u : Int), .int .i64 (t : Int), .int .i64 (h : Int), .int .i64 (x : Int), .int .i64 (y : Int)] : List Value)[2]? = some _ from rfl] at b42
    have b43 := b4x.cell 3
    rw [show ([.int .i64 (k : Int), .int .i64 (u : Int), .int .i64 (t : Int), .int .i64 (h : Int), .int .i64 (x : Int), .int .i64 (y : Int)] : List Value)[3]? = some _ from rfl] at b43
    have b44 := b4x.cell 4
    rw [show ([.int .i64 (k : Int), .int .i64 (u : Int), .int .i64 (t : Int), .int .i64 (h : Int), .int .i64 (x : Int), .int .i64 (y : Int)] : List Value)[4]? = some _ from rfl] at b44
    have b45 := b4x.cell 5
    rw [show ([.int .i64 (k : Int), .int .i64 (u : Int), .int .i64 (t : Int), .int .i64 (h : Int), .int .i64 (x : Int), .int .i64 (y : Int)] : List Value)[5]? = some _ from rfl] at b45
    have n40 := S3.out.nm.cell 0
    rw [show ([.bool true, .bool false, .bool false, .bool true] : List Value)[0]? = some _ from rfl] at n40
    have n41 := S3.out.nm.cell 1
    rw [show ([.bool true, .bool false, .bool false, .bool true] : List Value)[1]? = some _ from rfl] at n41
    have n42 := S3.out.nm.cell 2
    rw [show ([.bool true, .bool false, .bool false, .bool true] : List Value)[2]? = some _ from rfl] at n42
    have n43 := S3.out.nm.cell 3
    rw [show ([.bool true, .bool false, .bool false, .bool true] : List Value)[3]? = some _ from rfl] at n43
    clear b4x
    have call4 := hid (hup.out _ _ _ _ y p3 N3 c3 (((xs ++ sev k) ++ sev u) ++ sev x) _ (by omega) S3.out HN3.out (by omega))
    go_wp2_with fail
    refine Calls.mono call4.out ?_
    rintro e w6 ⟨p4, N4, c4, hN4, rfl, hl4, T4⟩
    have S4 := hid T4
    have HN4 := hid hN4
    clear T4 hN4 S3 call4 b40 b41 b42 b43 b44 b45 n40 n41 n42 n43
    have b5x := S4.out.bx
    have n50 := S4.out.nm.cell 0
    rw [show ([.bool true, .bool false, .bool false, .bool true] : List Value)[0]? = some _ from rfl] at n50
    have n51 := S4.out.nm.cell 1
    rw [show ([.bool true, .bool false, .bool false, .bool true] : List Value)[1]? = some _ from rfl] at n51
    have n52 := S4.out.nm.cell 2
    rw [show ([.bool true, .bool false, .bool false, .bool true] : List Value)[2]? = some _ from rfl] at n52
    have n53 := S4.out.nm.cell 3
    rw [show ([.bool true, .bool false, .bool false, .bool true] : List Value)[3]? = some _ from rfl] at n53
    clear b5x hup
    go_wp2_with fail
    go_ret
    exact ⟨p4, N4, c4, by rw [HN4.out]; simp, rfl, by simpa using S4.out.own, S4.out.gro⟩
  · simp only [q1, q2, q3, q4, if_true, Bool.false_eq_true, if_false, List.append_nil]
    simp only [q1, q2, q3, q4] at hnk
    clear q1 q2 q3 q4
    go_enter Try.func87, Try.ntmps87
    go_wp2_with fail
    refine Calls.mono (hnk.out _) ?_
    rintro e w2 ⟨rfl, hb2⟩
    have hbx0 := (Blk.new w [.int .i64 (k : Int), .int .i64 (u : Int), .int .i64 (t : Int), .int .i64 (h : Int), .int .i64 (x : Int), .int .i64 (y : Int)] 52).below hb2 (by simp)
    have hbw : Below w.heap.size w w2 := ((Below.refl _ _).alloc (Nat.le_refl _) _).trans (hb2.mono (by simp))
    have S0 : Hid (Wst w (.slice p M cap) base w.heap.size w2.heap.size [.int .i64 (k : Int), .int .i64 (u : Int), .int .i64 (t : Int), .int .i64 (h : Int), .int .i64 (x : Int), .int .i64 (y : Int)] [.bool true, .bool true, .bool false, .bool false] (w2.alloc (.cells ([.bool true, .bool true, .bool false, .bool false] : List Value).toArray 118)) (.slice p M cap) xs) := by
      have hal : Below w2.heap.size w2 (w2.alloc (.cells ([.bool true, .bool true, .bool false, .bool false] : List Value).toArray 118)) := (Below.refl _ _).alloc (Nat.le_refl _) _
      exact ⟨(HO.out.below hbw).below hal, ((Gro.refl w _).keep hbw).keep hal, hbx0.alloc _, Blk.new _ _ _, fun he => by have := (HO.out.block _ he).2; omega, fun he => by have := (HO.out.block _ he).2; have := hbw.size; omega, Nat.le_trans hbase (Nat.le_trans hbw.size hal.size)⟩
    clear hb2 hbw hnk hbx0
    have b1x := S0.out.bx
    have b10 := b1x.cell 0
    rw [show ([.int .i64 (k : Int), .int .i64 (u : Int), .int .i64 (t : Int), .int .i64 (h : Int), .int .i64 (x : Int), .int .i64 (y : Int)] : List Value)[0]? = some _ from rfl] at b10
    have b11 := b1x.cell 1
    rw [show ([.int .i64 (k : Int), .int .i64 (u : Int), .int .i64 (t : Int), .int .i64 (h : Int), .int .i64 (x : Int), .int .i64 (y : Int)] : List Value)[1]? = some _ from rfl] at b11
    have b12 := b1x.cell 2
    rw [show ([.int .i64 (k : Int), .int .i64 (u : Int), .int .i64 (t : Int), .int .i64 (h : Int), .int .i64 (x : Int), .int .i64 (y : Int)] : List Value)[2]? = some _ from rfl] at b12
    have b13 := b1x.cell 3
    rw [show ([.int .i64 (k : Int), .int .i64 (u : Int), .int .i64 (t : Int), .int .i64 (h : Int), .int .i64 (x : Int), .int .i64 (y : Int)] : List Value)[3]? = some _ from rfl] at b13
    have b14 := b1x.cell 4
    rw [show ([.int .i64 (k : Int), .int .i64 (u : Int), .int .i64 (t : Int), .int .i64 (h : Int), .int .i64 (x : Int), .int .i64 (y : Int)] : List Value)[4]? = some _ from rfl] at b14
    have b15 := b1x.cell 5
    rw [show ([.int .i64 (k : Int), .int .i64 (u : Int), .int .i64 (t : Int), .int .i64 (h : Int), .int .i64 (x : Int), .int .i64 (y : Int)] : List Value)[5]? = some _ from rfl] at b15
    have n10 := S0.out.nm.cell 0
    rw [show ([.bool true, .bool true, .bool false, .bool false] : List Value)[0]? = some _ from rfl] at n10
    have n11 := S0.out.nm.cell 1
    rw [show ([.bool true, .bool true, .bool false, .bool false] : List Value)[1]? = some _ from rfl] at n11
    have n12 := S0.out.nm.cell 2
    rw [show ([.bool true, .bool true, .bool false, .bool false] : List Value)[2]? = some _ from rfl] at n12
    have n13 := S0.out.nm.cell 3
    rw [show ([.bool true, .bool true, .bool false, .bool false] : List Value)[3]? = some _ from rfl] at n13
    clear b1x
    have call1 := hid (hup.out _ _ _ _ k p M cap xs _ (by omega) S0.out HM.out (by omega))
    go_wp2_with fail
    refine Calls.mono call1.out ?_
    rintro e w3 ⟨p1, N1, c1, hN1, rfl, hl1, T1⟩
    obtain ⟨NB, hNB⟩ : ∃ NB, NB = w2.heap.size := ⟨_, rfl⟩
    rw [← hNB] at T1
    simp only [← hNB]
    clear hNB
    have S1 := hid T1
    have HN1 := hid hN1
    clear T1 hN1 S0 call1 b10 b11 b12 b13 b14 b15 n10 n11 n12 n13
    have b2x := S1.out.bx
    have b20 := b2x.cell 0
    rw [show ([.int .i64 (k : Int), .int .i64 (u : Int), .int .i64 (t : Int), .int .i64 (h : Int), .int .i64 (x : Int), .int .i64 (y : Int)] : List Value)[0]? = some _ from rfl] at b20
    have b21 := b2x.cell 1
    rw [show ([.int .i64 (k : Int), .int .i64 (u : Int), .int .i64 (t : Int), .int .i64 (h : Int), .int .i64 (x : Int), .int .i64 (y : Int)] : List Value)[1]? = some _ from rfl] at b21
    have b22 := b2x.cell 2
    rw [show ([.int .i64 (k : Int), .int .i64 (u : Int), .int .i64 (t : Int), .int .i64 (h : Int), .int .i64 (x : Int), .int .i64 (y : Int)] : List Value)[2]? = some _ from rfl] at b22
    have b23 := b2x.cell 3
    rw [show ([.int .i64 (k : Int), .int .i64 (u : Int), .int .i64 (t : Int), .int .i64 (h : Int), .int .i64 (x : Int), .int .i64 (y : Int)] : List Value)[3]? = some _ from rfl] at b23
    have b24 := b2x.cell 4
    rw [show ([.int .i64 (k : Int), .int .i64 (u : Int), .int .i64 (t : Int), .int .i64 (h : Int), .int .i64 (x : Int), .int .i64 (y : Int)] : List Value)[4]? = some _ from rfl] at b24
    have b25 := b2x.cell 5
    rw [show ([.int .i64 (k : Int), .int .i64 (u : Int), .int .i64 (t : Int), .int .i64 (h : Int), .int .i64 (x : Int), .int .i64 (y : Int)] : List Value)[5]? = some _ from rfl] at b25
    have n20 := S1.out.nm.cell 0
    rw [show ([.bool true, .bool true, .bool false, .bool false] : List Value)[0]? = some _ from rfl] at n20
    have n21 := S1.out.nm.cell 1
    rw [show ([.bool true, .bool true, .bool false, .bool false] : List Value)[1]? = some _ from rfl] at n21
    have n22 := S1.out.nm.cell 2
    rw [show ([.bool true, .bool true, .bool false, .bool false] : List Value)[2]? = some _ from rfl] at n22
    have n23 := S1.out.nm.cell 3
    rw [show ([.bool true, .bool true, .bool false, .bool false] : List Value)[3]? = some _ from rfl] at n23
    clear b2x
    have call2 := hid (hup.out _ _ _ _ u p1 N1 c1 (xs ++ sev k) _ (by omega) S1.out HN1.out (by omega))
    go_wp2_with fail
    refine Calls.mono call2.out ?_
    rintro e w4 ⟨p2, N2, c2, hN2, rfl, hl2, T2⟩
    have S2 := hid T2
    have HN2 := hid hN2
    clear T2 hN2 S1 call2 b20 b21 b22 b23 b24 b25 n20 n21 n22 n23
    have b3x := S2.out.bx
    have b30 := b3x.cell 0
    rw [show ([.int .i64 (k : Int), .int .i64 (u : Int), .int .i64 (t : Int), .int .i64 (h : Int), .int .i64 (x : Int), .int .i64 (y : Int)] : List Value)[0]? = some _ from rfl] at b30
    have b31 := b3x.cell 1
    rw [show ([.int .i64 (k : Int), .int .i64 (u : Int), .int .i64 (t : Int), .int .i64 (h : Int), .int .i64 (x : Int), .int .i64 (y : Int)] : List Value)[1]? = some _ from rfl] at b31
    have b32 := b3x.cell 2
    rw [show ([.int .i64 (k : Int), .int .i64 (u : Int), .int .i64 (t : Int), .int .i64 (h : Int), .int .i64 (x : Int), .int .i64 (y : Int)] : List Value)[2]? = some _ from rfl] at b32
    have b33 := b3x.cell 3
    rw [show ([.int .i64 (k : Int), .int .i64 (u : Int), .int .i64 (t : Int), .int .i64 (h : Int), .int .i64 (x : Int), .int .i64 (y : Int)] : List Value)[3]? = some _ from rfl] at b33
    have b34 := b3x.cell 4
    rw [show ([.int .i64 (k : Int), .int .i64 (u : Int), .int .i64 (t : Int), .int .i64 (h : Int), .int .i64 (x : Int), .int .i64 (y : Int)] : List Value)[4]? = some _ from rfl] at b34
    have b35 := b3x.cell 5
    rw [show ([.int .i64 (k : Int), .int .i64 (u : Int), .int .i64 (t : Int), .int .i64 (h : Int), .int .i64 (x : Int), .int .i64 (y : Int)] : List Value)[5]? = some _ from rfl] at b35
    have n30 := S2.out.nm.cell 0
    rw [show ([.bool true, .bool true, .bool false, .bool false] : List Value)[0]? = some _ from rfl] at n30
    have n31 := S2.out.nm.cell 1
    rw [show ([.bool true, .bool true, .bool false, .bool false] : List Value)[1]? = some _ from rfl] at n31
    have n32 := S2.out.nm.cell 2
    rw [show ([.bool true, .bool true, .bool false, .bool false] : List Value)[2]? = some _ from rfl] at n32
    have n33 := S2.out.nm.cell 3
    rw [show ([.bool true, .bool true, .bool false, .bool false] : List Value)[3]? = some _ from rfl] at n33
    clear b3x
    have call3 := hid (hup.out _ _ _ _ t p2 N2 c2 ((xs ++ sev k) ++ sev u) _ (by omega) S2.out HN2.out (by omega))
    go_wp2_with fail
    refine Calls.mono call3.out ?_
    rintro e w5 ⟨p3, N3, c3, hN3, rfl, hl3, T3⟩
    have S3 := hid T3
    have HN3 := hid hN3
    clear T3 hN3 S2 call3 b30 b31 b32 b33 b34 b35 n30 n31 n32 n33
    have b4x := S3.out.bx
    have n40 := S3.out.nm.cell 0
    rw [show ([.bool true, .bool true, .bool false, .bool false] : List Value)[0]? = some _ from rfl] at n40
    have n41 := S3.out.nm.cell 1
    rw [show ([.bool true, .bool true, .bool false, .bool false] : List Value)[1]? = some _ from rfl] at n41
    have n42 := S3.out.nm.cell 2
    rw [show ([.bool true, .bool true, .bool false, .bool false] : List Value)[2]? = some _ from rfl] at n42
    have n43 := S3.out.nm.cell 3
    rw [show ([.bool true, .bool true, .bool false, .bool false] : List Value)[3]? = some _ from rfl] at n43
    clear b4x hup
    go_wp2_with fail
    go_ret
    exact ⟨p3, N3, c3, by rw [HN3.out]; simp, rfl, by simpa using S3.out.own, S3.out.gro⟩
  · simp only [q1, q2, q3, q4, if_true, Bool.false_eq_true, if_false, List.append_nil, List.nil_append]
    simp only [q1, q2, q3, q4] at hnk
    clear q1 q2 q3 q4
    go_enter Try.func87, Try.ntmps87
    go_wp2_with fail
    refine Calls.mono (hnk.out _) ?_
    rintro e w2 ⟨rfl, hb2⟩
    have hbx0 := (Blk.new w [.int .i64 (k : Int), .int .i64 (u : Int), .int .i64 (t : Int), .int .i64 (h : Int), .int .i64 (x : Int), .int .i64 (y : Int)] 52).below hb2 (by simp)
    have hbw : Below w.heap.size w w2 := ((Below.refl _ _).alloc (Nat.le_refl _) _).trans (hb2.mono (by simp))
    have S0 : Hid (Wst w (.slice p M cap) base w.heap.size w2.heap.size [.int .i64 (k : Int), .int .i64 (u : Int), .int .i64 (t : Int), .int .i64 (h : Int), .int .i64 (x : Int), .int .i64 (y : Int)] [.bool true, .bool false, .bool true, .bool false] (w2.alloc (.cells ([.bool true, .bool false, .bool true, .bool false] : List Value).toArray 118)) (.slice p M cap) xs) := by
      have hal : Below w2.heap.size w2 (w2.alloc (.cells ([.bool true, .bool false, .bool true, .bool false] : List Value).toArray 118)) := (Below.refl _ _).alloc (Nat.le_refl _) _
      exact ⟨(HO.out.below hbw).below hal, ((Gro.refl w _).keep hbw).keep hal, hbx0.alloc _, Blk.new _ _ _, fun he => by have := (HO.out.block _ he).2; omega, fun he => by have := (HO.out.block _ he).2; have := hbw.size; omega, Nat.le_trans hbase (Nat.le_trans hbw.size hal.size)⟩
    clear hb2 hbw hnk hbx0
    have b1x := S0.out.bx
    have b10 := b1x.cell 0
    rw [show ([.int .i64 (k : Int), .int .i64 (u : Int), .int .i64 (t : Int), .int .i64 (h : Int), .int .i64 (x : Int), .int .i64 (y : Int)] : List Value)[0]? = some _ from rfl] at b10
    have b11 := b1x.cell 1
    rw [show ([.int .i64 (k : Int), .int .i64 (u : Int), .int .i64 (t : Int), .int .i64 (h : Int), .int .i64 (x : Int), .int .i64 (y : Int)] : List Value)[1]? = some _ from rfl] at b11
    have b12 := b1x.cell 2
    rw [show ([.int .i64 (k : Int), .int .i64 (u : Int), .int .i64 (t : Int), .int .i64 (h : Int), .int .i64 (x : Int), .int .i64 (y : Int)] : List Value)[2]? = some _ from rfl] at b12
    have b13 := b1x.cell 3
    rw [show ([.int .i64 (k : Int), .int .i64 (u : Int), .int .i64 (t : Int), .int .i64 (h : Int), .int .i64 (x : Int), .int .i64 (y : Int)] : List Value)[3]? = some _ from rfl] at b13
    have b14 := b1x.cell 4
    rw [show ([.int .i64 (k : Int), .int .i64 (u : Int), .int .i64 (t : Int), .int .i64 (h : Int), .int .i64 (x : Int), .int .i64 (y : Int)] : List Value)[4]? = some _ from rfl] at b14
    have b15 := b1x.cell 5
    rw [show ([.int .i64 (k : Int), .int .i64 (u : Int), .int .i64 (t : Int), .int .i64 (h : Int), .int .i64 (x : Int), .int .i64 (y : Int)] : List Value)[5]? = some _ from rfl] at b15
    have n10 := S0.out.nm.cell 0
    rw [show ([.bool true, .bool false, .bool true, .bool false] : List Value)[0]? = some _ from rfl] at n10
    have n11 := S0.out.nm.cell 1
    rw [show ([.bool true, .bool false, .bool true, .bool false] : List Value)[1]? = some _ from rfl] at n11
    have n12 := S0.out.nm.cell 2
    rw [show ([.bool true, .bool false, .bool true, .bool false] : List Value)[2]? = some _ from rfl] at n12
    have n13 := S0.out.nm.cell 3
    rw [show ([.bool true, .bool false, .bool true, .bool false] : List Value)[3]? = some _ from rfl] at n13
    clear b1x
    have call1 := hid (hup.out _ _ _ _ k p M cap xs _ (by omega) S0.out HM.out (by omega))
    go_wp2_with fail
    refine Calls.mono call1.out ?_
    rintro e w3 ⟨p1, N1, c1, hN1, rfl, hl1, T1⟩
    obtain ⟨NB, hNB⟩ : ∃ NB, NB = w2.heap.size := ⟨_, rfl⟩
    rw [← hNB] at T1
    simp only [← hNB]
    clear hNB
    have S1 := hid T1
    have HN1 := hid hN1
    clear T1 hN1 S0 call1 b10 b11 b12 b13 b14 b15 n10 n11 n12 n13
    have b2x := S1.out.bx
    have b20 := b2x.cell 0
    rw [show ([.int .i64 (k : Int), .int .i64 (u : Int), .int .i64 (t : Int), .int .i64 (h : Int), .int .i64 (x : Int), .int .i64 (y : Int)] : List Value)[0]? = some _ from rfl] at b20
    have b21 := b2x.cell 1
    rw [show ([.int .i64 (k : Int), .int .i64 (u : Int), .int .i64 (t : Int), .int .i64 (h : Int), .int .i64 (x : Int), .int .i64 (y : Int)] : List Value)[1]? = some _ from rfl] at b21
    have b22 := b2x.cell 2
    rw [show ([.int .i64 (k : Int), .int .i64 (u : Int), .int .i64 (t : Int), .int .i64 (h : Int), .int .i64 (x : Int), .int .i64 (y : Int)] : List Value)[2]? = some _ from rfl] at b22
    have b23 := b2x.cell 3
    rw [show ([.int .i64 (k : Int), .int .i64 (u : Int), .int .i64 (t : Int), .int .i64 (h : Int), .int .i64 (x : Int), .int .i64 (y : Int)] : List Value)[3]? = some _ from rfl] at b23
    have b24 := b2x.cell 4
    rw [show ([.int .i64 (k : Int), .int .i64 (u : Int), .int .i64 (t : Int), .int .i64 (h : Int), .int .i64 (x : Int), .int .i64 (y : Int)] : List Value)[4]? = some _ from rfl] at b24
    have b25 := b2x.cell 5
    rw [show ([.int .i64 (k : Int), .int .i64 (u : Int), .int .i64 (t : Int), .int .i64 (h : Int), .int .i64 (x : Int), .int .i64 (y : Int)] : List Value)[5]? = some _ from rfl] at b25
    have n20 := S1.out.nm.cell 0
    rw [show ([.bool true, .bool false, .bool true, .bool false] : List Value)[0]? = some _ from rfl] at n20
    have n21 := S1.out.nm.cell 1
    rw [show ([.bool true, .bool false, .bool true, .bool false] : List Value)[1]? = some _ from rfl] at n21
    have n22 := S1.out.nm.cell 2
    rw [show ([.bool true, .bool false, .bool true, .bool false] : List Value)[2]? = some _ from rfl] at n22
    have n23 := S1.out.nm.cell 3
    rw [show ([.bool true, .bool false, .bool true, .bool false] : List Value)[3]? = some _ from rfl] at n23
    clear b2x
    have call2 := hid (hup.out _ _ _ _ u p1 N1 c1 (xs ++ sev k) _ (by omega) S1.out HN1.out (by omega))
    go_wp2_with fail
    refine Calls.mono call2.out ?_
    rintro e w4 ⟨p2, N2, c2, hN2, rfl, hl2, T2⟩
    have S2 := hid T2
    have HN2 := hid hN2
    clear T2 hN2 S1 call2 b20 b21 b22 b23 b24 b25 n20 n21 n22 n23
    have b3x := S2.out.bx
    have b30 := b3x.cell 0
    rw [show ([.int .i64 (k : Int), .int .i64 (u : Int), .int .i64 (t : Int), .int .i64 (h : Int), .int .i64 (x : Int), .int .i64 (y : Int)] : List Value)[0]? = some _ from rfl] at b30
    have b31 := b3x.cell 1
    rw [show ([.int .i64 (k : Int), .int .i64 (u : Int), .int .i64 (t : Int), .int .i64 (h : Int), .int .i64 (x : Int), .int .i64 (y : Int)] : List Value)[1]? = some _ from rfl] at b31
    have b32 := b3x.cell 2
    rw [show ([.int .i64 (k : Int), .int .i64 (u : Int), .int .i64 (t : Int), .int .i64 (h : Int), .int .i64 (x : Int), .int .i64 (y : Int)] : List Value)[2]? = some _ from rfl] at b32
    have b33 := b3x.cell 3
    rw [show ([.int .i64 (k : Int), .int .i64 (u : Int), .int .i64 (t : Int), .int .i64 (h : Int), .int .i64 (x : Int), .int .i64 (y : Int)] : List Value)[3]? = some _ from rfl] at b33
    have b34 := b3x.cell 4
    rw [show ([.int .i64 (k : Int), .int .i64 (u : Int), .int .i64 (t : Int), .int .i64 (h : Int), .int .i64 (x : Int), .int .i64 (y : Int)] : List Value)[4]? = some _ from rfl] at b34
    have b35 := b3x.cell 5
    rw [show ([.int .i64 (k : Int), .int .i64 (u : Int), .int .i64 (t : Int), .int .i64 (h : Int), .int .i64 (x : Int), .int .i64 (y : Int)] : List Value)[5]? = some _ from rfl] at b35
    have n30 := S2.out.nm.cell 0
    rw [show ([.bool true, .bool false, .bool true, .bool false] : List Value)[0]? = some _ from rfl] at n30
    have n31 := S2.out.nm.cell 1
    rw [show ([.bool true, .bool false, .bool true, .bool false] : List Value)[1]? = some _ from rfl] at n31
    have n32 := S2.out.nm.cell 2
    rw [show ([.bool true, .bool false, .bool true, .bool false] : List Value)[2]? = some _ from rfl] at n32
    have n33 := S2.out.nm.cell 3
    rw [show ([.bool true, .bool false, .bool true, .bool false] : List Value)[3]? = some _ from rfl] at n33
    clear b3x
    have call3 := hid (hup.out _ _ _ _ h p2 N2 c2 ((xs ++ sev k) ++ sev u) _ (by omega) S2.out HN2.out (by omega))
    go_wp2_with fail
    refine Calls.mono call3.out ?_
    rintro e w5 ⟨p3, N3, c3, hN3, rfl, hl3, T3⟩
    have S3 := hid T3
    have HN3 := hid hN3
    clear T3 hN3 S2 call3 b30 b31 b32 b33 b34 b35 n30 n31 n32 n33
    have b4x := S3.out.bx
    have n40 := S3.out.nm.cell 0
    rw [show ([.bool true, .bool false, .bool true, .bool false] : List Value)[0]? = some _ from rfl] at n40
    have n41 := S3.out.nm.cell 1
    rw [show ([.bool true, .bool false, .bool true, .bool false] : List Value)[1]? = some _ from rfl] at n41
    have n42 := S3.out.nm.cell 2
    rw [show ([.bool true, .bool false, .bool true, .bool false] : List Value)[2]? = some _ from rfl] at n42
    have n43 := S3.out.nm.cell 3
    rw [show ([.bool true, .bool false, .bool true, .bool false] : List Value)[3]? = some _ from rfl] at n43
    clear b4x hup
    go_wp2_with fail
    go_ret
    exact ⟨p3, N3, c3, by rw [HN3.out]; simp, rfl, by simpa using S3.out.own, S3.out.gro⟩
  · simp only [q1, q2, q3, q4, if_true, Bool.false_eq_true, if_false, List.append_nil]
    simp only [q1, q2, q3, q4] at hnk
    clear q1 q2 q3 q4
    go_enter Try.func87, Try.ntmps87
    go_wp2_with fail
    refine Calls.mono (hnk.out _) ?_
    rintro e w2 ⟨rfl, hb2⟩
    have hbx0 := (Blk.new w [.int .i64 (k : Int), .int .i64 (u : Int), .int .i64 (t : Int), .int .i64 (h : Int), .int .i64 (x : Int), .int .i64 (y : Int)] 52).below hb2 (by simp)
    have hbw : Below w.heap.size w w2 := ((Below.refl _ _).alloc (Nat.le_refl _) _).trans (hb2.mono (by simp))
    have S0 : Hid (Wst w (.slice p M cap) base w.heap.size w2.heap.size [.int .i64 (k : Int), .int .i64 (u : Int), .int .i64 (t : Int), .int .i64 (h : Int), .int .i64 (x : Int), .int .i64 (y : Int)] [.bool true, .bool false, .bool false, .bool false] (w2.alloc (.cells ([.bool true, .bool false, .bool false, .bool false] : List Value).toArray 118)) (.slice p M cap) xs) := by
      have hal : Below w2.heap.size w2 (w2.alloc (.cells ([.bool true, .bool false, .bool false, .bool false] : List Value).toArray 118)) := (Below.refl _ _).alloc (Nat.le_refl _) _
      exact ⟨(HO.out.below hbw).below hal, ((Gro.refl w _).keep hbw).keep hal, hbx0.alloc _, Blk.new _ _ _, fun he => by have := (HO.out.block _ he).2; omega, fun he => by have := (HO.out.block _ he).2; have := hbw.size; omega, Nat.le_trans hbase (Nat.le_trans hbw.size hal.size)⟩
    clear hb2 hbw hnk hbx0
    have b1x := S0.out.bx
    have b10 := b1x.cell 0
    rw [show ([.int .i64 (k : Int), .int .i64 (u : Int), .int .i64 (t : Int), .int .i64 (h : Int), .int .i64 (x : Int), .int .i64 (y : Int)] : List Value)[0]? = some _ from rfl] at b10
    have b11 := b1x.cell 1
    rw [show ([.int .i64 (k : Int), .int .i64 (u : Int), .int .i64 (t : Int), .int .i64 (h : Int), .int .i64 (x : Int), .int .i64 (y : Int)] : List Value)[1]? = some _ from rfl] at b11
    have b12 := b1x.cell 2
    rw [show ([.int .i64 (k : Int), .int .i64 (u : Int), .int .i64 (t : Int), .int .i64 (h : Int), .int .i64 (x : Int), .int .i64 (y : Int)] : List Value)[2]? = some _ from rfl] at b12
    have b13 := b1x.cell 3
    rw [show ([.int .i64 (k : Int), .int .i64 (u : Int), .int .i64 (t : Int), .int .i64 (h : Int), .int .i64 (x : Int), .int .i64 (y : Int)] : List Value)[3]? = some _ from rfl] at b13
    have b14 := b1x.cell 4
    rw [show ([.int .i64 (k : Int), .int .i64 (u : Int), .int .i64 (t : Int), .int .i64 (h : Int), .int .i64 (x : Int), .int .i64 (y : Int)] : List Value)[4]? = some _ from rfl] at b14
    have b15 := b1x.cell 5
    rw [show ([.int .i64 (k : Int), .int .i64 (u : Int), .int .i64 (t : Int), .int .i64 (h : Int), .int .i64 (x : Int), .int .i64 (y : Int)] : List Value)[5]? = some _ from rfl] at b15
    have n10 := S0.out.nm.cell 0
    rw [show ([.bool true, .bool false, .bool false, .bool false] : List Value)[0]? = some _ from rfl] at n10
    have n11 := S0.out.nm.cell 1
    rw [show ([.bool true, .bool false, .bool false, .bool false] : List Value)[1]? = some _ from rfl] at n11
    have n12 := S0.out.nm.cell 2
    rw [show ([.bool true, .bool false, .bool false, .bool false] : List Value)[2]? = some _ from rfl] at n12
    have n13 := S0.out.nm.cell 3
    rw [show ([.bool true, .bool false, .bool false, .bool false] : List Value)[3]? = some _ from rfl] at n13
    clear b1x
    have call1 := hid (hup.out _ _ _ _ k p M cap xs _ (by omega) S0.out HM.out (by omega))
    go_wp2_with fail
    refine Calls.mono call1.out ?_
    rintro e w3 ⟨p1, N1, c1, hN1, rfl, hl1, T1⟩
    obtain ⟨NB, hNB⟩ : ∃ NB, NB = w2.heap.size := ⟨_, rfl⟩
    rw [← hNB] at T1
    simp only [← hNB]
    clear hNB
    have S1 := hid T1
    have HN1 := hid hN1
    clear T1 hN1 S0 call1 b10 b11 b12 b13 b14 b15 n10 n11 n12 n13
    have b2x := S1.out.bx
    have b20 := b2x.cell 0
    rw [show ([.int .i64 (k : Int), .int .i64 (u : Int), .int .i64 (t : Int), .int .i64 (h : Int), .int .i64 (x : Int), .int .i64 (y : Int)] : List Value)[0]? = some _ from rfl] at b20
    have b21 := b2x.cell 1
    rw [show ([.int .i64 (k : Int), .int .i64 (u : Int), .int .i64 (t : Int), .int .i64 (h : Int), .int .i64 (x : Int), .int .i64 (y : Int)] : List Value)[1]? = some _ from rfl] at b21
    have b22 := b2x.cell 2
    rw [show ([.int .i64 (k : Int), .int .i64 (u : Int), .int .i64 (t : Int), .int .i64 (h : Int), .int .i64 (x : Int), .int .i64 (y : Int)] : List Value)[2]? = some _ from rfl] at b22
    have b23 := b2x.cell 3
    rw [show ([.int .i64 (k : Int), .int .i64 (u : Int), .int .i64 (t : Int), .int .i64 (h : Int), .int .i64 (x : Int), .int .i64 (y : Int)] : List Value)[3]? = some _ from rfl] at b23
    have b24 := b2x.cell 4
    rw [show ([.int .i64 (k : Int), .int .i64 (u : Int), .int .i64 (t : Int), .int .i64 (h : Int), .int .i64 (x : Int), .int .i64 (y : Int)] : List Value)[4]? = some _ from rfl] at b24
    have b25 := b2x.cell 5
    rw [show ([.int .i64 (k : Int), .int .i64 (u : Int), .int .i64 (t : Int), .int .i64 (h : Int), .int .i64 (x : Int), .int .i64 (y : Int)] : List Value)[5]? = some _ from rfl] at b25
    have n20 := S1.out.nm.cell 0
    rw [show ([.bool true, .bool false, .bool false, .bool false] : List Value)[0]? = some _ from rfl] at n20
    have n21 := S1.out.nm.cell 1
    rw [show ([.bool true, .bool false, .bool false, .bool false] : List Value)[1]? = some _ from rfl] at n21
    have n22 := S1.out.nm.cell 2
    rw [show ([.bool true, .bool false, .bool false, .bool false] : List Value)[2]? = some _ from rfl] at n22
    have n23 := S1.out.nm.cell 3
    rw [show ([.bool true, .bool false, .bool false, .bool false] : List Value)[3]? = some _ from rfl] at n23
    clear b2x
    have call2 := hid (hup.out _ _ _ _ u p1 N1 c1 (xs ++ sev k) _ (by omega) S1.out HN1.out (by omega))
    go_wp2_with fail
    refine Calls.mono call2.out ?_
    rintro e w4 ⟨p2, N2, c2, hN2, rfl, hl2, T2⟩
    have S2 := hid T2
    have HN2 := hid hN2
    clear T2 hN2 S1 call2 b20 b21 b22 b23 b24 b25 n20 n21 n22 n23
    have b3x := S2.out.bx
    have n30 := S2.out.nm.cell 0
    rw [show ([.bool true, .bool false, .bool false, .bool false] : List Value)[0]? = some _ from rfl] at n30
    have n31 := S2.out.nm.cell 1
    rw [show ([.bool true, .bool false, .bool false, .bool false] : List Value)[1]? = some _ from rfl] at n31
    have n32 := S2.out.nm.cell 2
    rw [show ([.bool true, .bool false, .bool false, .bool false] : List Value)[2]? = some _ from rfl] at n32
    have n33 := S2.out.nm.cell 3
    rw [show ([.bool true, .bool false, .bool false, .bool false] : List Value)[3]? = some _ from rfl] at n33
    clear b3x hup
    go_wp2_with fail
    go_ret
    exact ⟨p2, N2, c2, by rw [HN2.out]; simp, rfl, by simpa using S2.out.own, S2.out.gro⟩
  · simp only [q1, q2, q3, q4, Bool.false_eq_true, if_false, List.append_nil]
    simp only [q1, q2, q3, q4] at hnk
    clear q1 q2 q3 q4
    go_enter Try.func87, Try.ntmps87
    go_wp2_with fail
    refine Calls.mono (hnk.out _) ?_
    rintro e w2 ⟨rfl, hb2⟩
    have hbx0 := (Blk.new w [.int .i64 (k : Int), .int .i64 (u : Int), .int .i64 (t : Int), .int .i64 (h : Int), .int .i64 (x : Int), .int .i64 (y : Int)] 52).below hb2 (by simp)
    have hbw : Below w.heap.size w w2 := ((Below.refl _ _).alloc (Nat.le_refl _) _).trans (hb2.mono (by simp))
    have S0 : Hid (Wst w (.slice p M cap) base w.heap.size w2.heap.size [.int .i64 (k : Int), .int .i64 (u : Int), .int .i64 (t : Int), .int .i64 (h : Int), .int .i64 (x : Int), .int .i64 (y : Int)] [.bool false, .bool false, .bool false, .bool false] (w2.alloc (.cells ([.bool false, .bool false, .bool false, .bool false] : List Value).toArray 118)) (.slice p M cap) xs) := by
      have hal : Below w2.heap.size w2 (w2.alloc (.cells ([.bool false, .bool false, .bool false, .bool false] : List Value).toArray 118)) := (Below.refl _ _).alloc (Nat.le_refl _) _
      exact ⟨(HO.out.below hbw).below hal, ((Gro.refl w _).keep hbw).keep hal, hbx0.alloc _, Blk.new _ _ _, fun he => by have := (HO.out.block _ he).2; omega, fun he => by have := (HO.out.block _ he).2; have := hbw.size; omega, Nat.le_trans hbase (Nat.le_trans hbw.size hal.size)⟩
    clear hb2 hbw hnk hbx0
    have b1x := S0.out.bx
    have b10 := b1x.cell 0
    rw [show ([.int .i64 (k : Int), .int .i64 (u : Int), .int .i64 (t : Int), .int .i64 (h : Int), .int .i64 (x : Int), .int .i64 (y : Int)] : List Value)[0]? = some _ from rfl] at b10
    have b11 := b1x.cell 1
    rw [show ([.int .i64 (k : Int), .int .i64 (u : Int), .int .i64 (t : Int), .int .i64 (h : Int), .int .i64 (x : Int), .int .i64 (y : Int)] : List Value)[1]? = some _ from rfl] at b11
    have b12 := b1x.cell 2
    rw [show ([.int .i64 (k : Int), .int .i64 (u : Int), .int .i64 (t : Int), .int .i64 (h : Int), .int .i64 (x : Int), .int .i64 (y : Int)] : List Value)[2]? = some _ from rfl] at b12
    have b13 := b1x.cell 3
    rw [show ([.int .i64 (k : Int), .int .i64 (u : Int), .int .i64 (t : Int), .int .i64 (h : Int), .int .i64 (x : Int), .int .i64 (y : Int)] : List Value)[3]? = some _ from rfl] at b13
    have b14 := b1x.cell 4
    rw [show ([.int .i64 (k : Int), .int .i64 (u : Int), .int .i64 (t : Int), .int .i64 (h : Int), .int .i64 (x : Int), .int .i64 (y : Int)] : List Value)[4]? = some _ from rfl] at b14
    have b15 := b1x.cell 5
    rw [show ([.int .i64 (k : Int), .int .i64 (u : Int), .int .i64 (t : Int), .int .i64 (h : Int), .int .i64 (x : Int), .int .i64 (y : Int)] : List Value)[5]? = some _ from rfl] at b15
    have n10 := S0.out.nm.cell 0
    rw [show ([.bool false, .bool false, .bool false, .bool false] : List Value)[0]? = some _ from rfl] at n10
    have n11 := S0.out.nm.cell 1
    rw [show ([.bool false, .bool false, .bool false, .bool false] : List Value)[1]? = some _ from rfl] at n11
    have n12 := S0.out.nm.cell 2
    rw [show ([.bool false, .bool false, .bool false, .bool false] : List Value)[2]? = some _ from rfl] at n12
    have n13 := S0.out.nm.cell 3
    rw [show ([.bool false, .bool false, .bool false, .bool false] : List Value)[3]? = some _ from rfl] at n13
    clear b1x
    have call1 := hid (hup.out _ _ _ _ k p M cap xs _ (by omega) S0.out HM.out (by omega))
    go_wp2_with fail
    refine Calls.mono call1.out ?_
    rintro e w3 ⟨p1, N1, c1, hN1, rfl, hl1, T1⟩
    obtain ⟨NB, hNB⟩ : ∃ NB, NB = w2.heap.size := ⟨_, rfl⟩
    rw [← hNB] at T1
    simp only [← hNB]
    clear hNB
    have S1 := hid T1
    have HN1 := hid hN1
    clear T1 hN1 S0 call1 b10 b11 b12 b13 b14 b15 n10 n11 n12 n13
    have b2x := S1.out.bx
    have n20 := S1.out.nm.cell 0
    rw [show ([.bool false, .bool false, .bool false, .bool false] : List Value)[0]? = some _ from rfl] at n20
    have n21 := S1.out.nm.cell 1
    rw [show ([.bool false, .bool false, .bool false, .bool false] : List Value)[1]? = some _ from rfl] at n21
    have n22 := S1.out.nm.cell 2
    rw [show ([.bool false, .bool false, .bool false, .bool false] : List Value)[2]? = some _ from rfl] at n22
    have n23 := S1.out.nm.cell 3
    rw [show ([.bool false, .bool false, .bool false, .bool false] : List Value)[3]? = some _ from rfl] at n23
    clear b2x hup
    go_wp2_with fail
    go_ret
    exact ⟨p1, N1, c1, by rw [HN1.out], rfl, by simpa using S1.out.own, S1.out.gro⟩
end Go.Proofs.Ytpiflgbcbhnmpaa
