/- What appendBody answers. -/
import Derived.Test.YtpiflgbcbhnmpaaWlst
namespace Go.Proofs.Ytpiflgbcbhnmpaa
open Go.RowKit
structure Sd.Nn (d : Sd) : Prop where
  m : d.m < 18446744073709551616
  p0 : 0 ≤ d.pl
  p1 : d.pl < 1000
  t0 : 0 ≤ d.tn
  t1 : d.tn < 1000
  cl : d.cs.length < 1000
  cs : ∀ c ∈ d.cs, c.Nn
  tg : d.tag.length = 32
theorem Sd.nn {d : Sd} (h : d.ok = true) (ht : d.tag.length = 32) : d.Nn := by
  simp only [Sd.ok, cmdsOk, rng, Bool.and_eq_true, decide_eq_true_eq, List.all_eq_true] at h
  obtain ⟨⟨⟨⟨h1, h2, h3⟩, h4, h5⟩, _⟩, h7, h8⟩ := h
  exact ⟨by omega, h2, by omega, h4, by omega, by omega, fun c hc => C6.nn (h8 c hc), ht⟩
def Sd.body (d : Sd) : List Nat := sev d.m ++ (sev d.pl.toNat ++ (sev d.tn.toNat ++ (sev (if d.em then 1 else 0) ++ cmdsB d.cs)))
/-- What sealed commands are written in. -/
structure W47 (w0 : World) (v0 : Value) (base B : Nat) (E : List Value) (q : Option Addr) (N qc : Nat) (cs : List C6) (w : World) (v : Value) (L : List Nat) : Prop where
  own : OwnB w base v L
  gro : Gro w0 v0 w v
  bx : Blk w B E 47
  n1 : v.ownBlock ≠ some B
  lo : base ≤ w.heap.size
  cm : CmdsAt w (.slice q N qc) cs
  ap : Apart w v q N
theorem W47.step {w0 : World} {v0 : Value} {base B : Nat} {E : List Value} {q : Option Addr} {N qc : Nat} {cs : List C6} {w w' : World} {v v' : Value} {L L' : List Nat} (h : W47 w0 v0 base B E q N qc cs w v L) (ho : OwnB w' base v' L') (hg : Gro w v w' v') : W47 w0 v0 base B E q N qc cs w' v' L' :=
  ⟨ho, h.gro.trans hg, hg.blk h.bx h.n1, hg.ne h.bx.lt h.n1, Nat.le_trans h.lo hg.size, h.cm.gro hg (fun hn a ha => (h.ap hn a ha).1), h.ap.gro hg⟩
set_option maxRecDepth 100000 in
set_option maxHeartbeats 4000000 in
theorem appendBody55 (d : Sd) (hd : d.Nn) (q : Option Addr) (N qc : Nat) (hN : N = d.cs.length) (xs : List Nat) (base : Nat) (p : Option Addr) (M cap : Nat) (w : World) (hM : M = xs.length) (ho : OwnB w base (.slice p M cap) xs) (hbase : base ≤ w.heap.size) (hsz : M < 1000000000) (hC : CmdsAt w (.slice q N qc) d.cs) (hA : Apart w (.slice p M cap) q N) :
    Calls Try.prog 55 #[.slice p M cap, .agg (d.cells (.slice q N qc)).toArray] w fun e w' => OutG w (.slice p M cap) base (xs ++ d.body) e w' := by
  have S0 : Hid (W47 w (.slice p M cap) base w.heap.size (d.cells (.slice q N qc)) q N qc d.cs (w.alloc (.cells (d.cells (.slice q N qc)).toArray 47)) (.slice p M cap) xs) := by
    have hal : Below w.heap.size w (w.alloc (.cells (d.cells (.slice q N qc)).toArray 47)) := (Below.refl _ _).alloc (Nat.le_refl _) _
    exact ⟨ho.below hal, (Gro.refl w _).keep hal, Blk.new _ _ _, fun he => by have := (ho.block _ he).2; omega, Nat.le_trans hbase hal.size, hC.below hal, fun hn a ha => ⟨(hA hn a ha).1, Nat.lt_of_lt_of_le (hA hn a ha).2 hal.size⟩⟩
  obtain ⟨m, pl, tn, em, cs, tag⟩ := d
  obtain ⟨hm, p0, p1, t0, t1, hcl, hcn, htg⟩ := hd
  simp only at hm p0 p1 t0 t1 hcl hcn htg hN S0
  obtain ⟨pl, rfl⟩ : ∃ n : Nat, pl = (n : Int) := ⟨pl.toNat, by omega⟩
  obtain ⟨tn, rfl⟩ : ∃ n : Nat, tn = (n : Int) := ⟨tn.toNat, by omega⟩
  have CE : (⟨m, (pl : Int), (tn : Int), em, cs, tag⟩ : Sd).cells (.slice q N qc) = .int .u64 (m : Int) :: .int .i64 (pl : Int) :: .int .i64 (tn : Int) :: .bool em :: .slice q N qc :: tag.map By := rfl
  have hup := hid (show ∀ (E : List Value) (n : Nat) (p1 : Option Addr) (N1 c1 : Nat) (L : List Nat) (W : World), n < 9223372036854775808 → W47 w (.slice p M cap) base w.heap.size E q N qc cs W (.slice p1 N1 c1) L → N1 = L.length → N1 < 10000000000 → Calls Try.prog 85 #[.slice p1 N1 c1, .int .i64 (n : Int)] W fun e w' => ∃ p2 N2 c2, N2 = (L ++ sev n).length ∧ e = .returned (.slice p2 N2 c2) ∧ N2 ≤ N1 + 10 ∧ W47 w (.slice p M cap) base w.heap.size E q N qc cs w' (.slice p2 N2 c2) (L ++ sev n) from fun E n p1 N1 c1 L W hn hS hN1 hb => (appendInt85 n hn L base p1 N1 c1 W hN1 hS.own hS.lo (by omega)).mono fun _ _ ⟨p2, N2, c2, a1, a2, a3, a4⟩ => ⟨p2, N2, c2, a1, a2, by rw [a1, List.length_append, ← hN1]; have := sev_len10 (n := n) (by omega); omega, hS.step a3 a4⟩)
  have hsv := hid (show ∀ (E : List Value) (n : Nat) (p1 : Option Addr) (N1 c1 : Nat) (L : List Nat) (W : World), n < 18446744073709551616 → W47 w (.slice p M cap) base w.heap.size E q N qc cs W (.slice p1 N1 c1) L → N1 = L.length → N1 < 10000000000 → Calls Try.prog 44 #[.slice p1 N1 c1, .int .u64 (n : Int)] W fun e w' => ∃ p2 N2 c2, N2 = (L ++ sev n).length ∧ e = .returned (.slice p2 N2 c2) ∧ N2 ≤ N1 + 10 ∧ W47 w (.slice p M cap) base w.heap.size E q N qc cs w' (.slice p2 N2 c2) (L ++ sev n) from fun E n p1 N1 c1 L W hn hS hN1 hb => (appendSevens44 n hn L base p1 N1 c1 W hN1 hS.own hS.lo (by omega)).mono fun _ _ ⟨p2, N2, c2, a1, a2, a3, a4⟩ => ⟨p2, N2, c2, a1, a2, by rw [a1, List.length_append, ← hN1]; have := sev_len10 (n := n) (by omega); omega, hS.step a3 a4⟩)
  have hls := hid (show ∀ (E : List Value) (p1 : Option Addr) (N1 c1 : Nat) (L : List Nat) (W : World), W47 w (.slice p M cap) base w.heap.size E q N qc cs W (.slice p1 N1 c1) L → N1 = L.length → N1 < 10000000000 → Calls Try.prog 86 #[.slice p1 N1 c1, .slice q N qc, .func (.func 87) #[] #[]] W fun e w' => ∃ p2 N2 c2, N2 = (L ++ cmdsB cs).length ∧ e = .returned (.slice p2 N2 c2) ∧ W47 w (.slice p M cap) base w.heap.size E q N qc cs w' (.slice p2 N2 c2) (L ++ cmdsB cs) from fun E p1 N1 c1 L W hS hN1 hb => (appendList86 cs hcn hcl L base p1 N1 c1 q N qc W hN1 hN hS.own hS.lo hb hS.cm hS.ap).mono fun _ _ ⟨p2, N2, c2, a1, a2, a3, a4⟩ => ⟨p2, N2, c2, a1, a2, hS.step a3 a4⟩)
  rw [CE] at S0
  unfold Sd.body
  rw [CE]
  obtain ⟨E, hE⟩ : ∃ E : List Value, E = .int .u64 (m : Int) :: .int .i64 (pl : Int) :: .int .i64 (tn : Int) :: .bool em :: .slice q N qc :: tag.map By := ⟨_, rfl⟩
  rw [← hE] at S0 ⊢
  have g0 : E[0]? = some (.int .u64 (m : Int)) := by rw [hE]; rfl
  have g1 : E[1]? = some (.int .i64 (pl : Int)) := by rw [hE]; rfl
  have g2 : E[2]? = some (.int .i64 (tn : Int)) := by rw [hE]; rfl
  have g3 : E[3]? = some (.bool em) := by rw [hE]; rfl
  have g4 : E[4]? = some (.slice q N qc) := by rw [hE]; rfl
  have G := hid (show ∀ (W : World), Blk W w.heap.size E 47 → W.cell? ⟨w.heap.size, 0, none⟩ = some (.int .u64 (m : Int)) ∧ W.cell? ⟨w.heap.size, 1, none⟩ = some (.int .i64 (pl : Int)) ∧ W.cell? ⟨w.heap.size, 2, none⟩ = some (.int .i64 (tn : Int)) ∧ W.cell? ⟨w.heap.size, 3, none⟩ = some (.bool em) ∧ W.cell? ⟨w.heap.size, 4, none⟩ = some (.slice q N qc) from fun W h => ⟨by rw [h.cell]; exact g0, by rw [h.cell]; exact g1, by rw [h.cell]; exact g2, by rw [h.cell]; exact g3, by rw [h.cell]; exact g4⟩)
  have HMM := hid hM
  have HN0 := hid hN
  simp only [Int.toNat_natCast]
  clear hC hA ho hM hN CE hE g0 g1 g2 g3 g4 hcn hcl htg
  generalize cmdsB cs = CB at *
  obtain ⟨a0, a1, a2, a3, a4⟩ := G.out _ S0.out.bx
  have call1 := hid (hsv.out _ m p M cap xs _ hm S0.out HMM.out (by omega))
  go_enter Try.func55, Try.ntmps55
  go_wp2_with fail
  refine Calls.mono call1.out ?_
  rintro e w1 ⟨p1, N1, c1, hN1, rfl, hl1, T1⟩
  have S1 := hid T1
  have HN1 := hid hN1
  clear T1 hN1 S0 call1 a0 a1 a2 a3 a4
  obtain ⟨a0, a1, a2, a3, a4⟩ := G.out _ S1.out.bx
  have call2 := hid (hup.out _ pl p1 N1 c1 _ _ (by omega) S1.out HN1.out (by omega))
  go_wp2_with fail
  refine Calls.mono call2.out ?_
  rintro e w2 ⟨p2, N2, c2, hN2, rfl, hl2, T2⟩
  have S2' := hid T2
  have HN2 := hid hN2
  clear T2 hN2 S1 call2 a0 a1 a2 a3 a4
  obtain ⟨a0, a1, a2, a3, a4⟩ := G.out _ S2'.out.bx
  have call3 := hid (hup.out _ tn p2 N2 c2 _ _ (by omega) S2'.out HN2.out (by omega))
  go_wp2_with fail
  refine Calls.mono call3.out ?_
  rintro e w3 ⟨p3, N3, c3, hN3, rfl, hl3, T3⟩
  have S3 := hid T3
  have HN3 := hid hN3
  clear T3 hN3 S2' call3 a0 a1 a2 a3 a4
  obtain ⟨a0, a1, a2, a3, a4⟩ := G.out _ S3.out.bx
  obtain ⟨ev, hev⟩ : ∃ ev : Nat, ev = if em = true then 1 else 0 := ⟨_, rfl⟩
  have HEV := hid hev
  have hev1 : ev ≤ 1 := by rw [hev]; split <;> omega
  have call4 := hid (hup.out _ ev p3 N3 c3 _ _ (by omega) S3.out HN3.out (by omega))
  have HX : Hid (em = true ∧ ev = 1 ∨ em = false ∧ ev = 0) := by
    cases em
    · exact Or.inr ⟨rfl, hev⟩
    · exact Or.inl ⟨rfl, hev⟩
  clear hev
  have HFIN := hid (show ∀ w4 p4 N4 c4, N4 ≤ N3 + 10 → N4 = ((((xs ++ sev m) ++ sev pl) ++ sev tn) ++ sev ev).length → W47 w (.slice p M cap) base w.heap.size E q N qc cs w4 (.slice p4 N4 c4) ((((xs ++ sev m) ++ sev pl) ++ sev tn) ++ sev ev) → Calls Try.prog 86 #[.slice p4 N4 c4, .slice q N qc, .func (.func 87) #[] #[]] w4 fun e w' => OutG w (.slice p M cap) base (xs ++ (sev m ++ (sev pl ++ (sev tn ++ (sev ev ++ CB))))) e w' from fun w4 p4 N4 c4 hb h1 h2 => (hls.out _ p4 N4 c4 _ _ h2 h1 (by omega)).mono fun _ _ ⟨p5, N5, c5, b1, b2, b3⟩ => ⟨p5, N5, c5, by rw [b1]; simp, b2, by simpa using b3.own, b3.gro⟩)
  have HEV2 : Hid ((if em = true then 1 else 0) = ev) := HEV.out.symm
  have HGOAL : Hid (∀ e w', OutG w (.slice p M cap) base (xs ++ (sev m ++ (sev pl ++ (sev tn ++ (sev ev ++ CB))))) e w' → OutG w (.slice p M cap) base (xs ++ (sev m ++ (sev pl ++ (sev tn ++ (sev (if em = true then 1 else 0) ++ CB))))) e w') := fun e w' h => by rw [HEV2.out]; exact h
  clear hup hsv hls
  rcases HX.out with ⟨rfl, rfl⟩ | ⟨rfl, rfl⟩
  · go_wp2_with fail
    refine Calls.mono call4.out ?_
    rintro e w4 ⟨p4, N4, c4, hN4, rfl, hl4, T4⟩
    obtain ⟨b0, b1, b2, b3, b4⟩ := G.out _ T4.bx
    have call5 := hid (HFIN.out w4 p4 N4 c4 hl4 hN4 T4)
    clear hN4 T4 HFIN call4 S3
    go_wp2_with fail
    refine Calls.mono call5.out ?_
    rintro e w5 ⟨p5, N5, c5, hN5, rfl, o5, g5⟩
    have HN5 := hid hN5
    clear hN5
    go_wp2_with fail
    go_ret
    exact HGOAL.out _ _ ⟨p5, N5, c5, HN5.out, rfl, o5, g5⟩
  · go_wp2_with fail
    refine Calls.mono call4.out ?_
    rintro e w4 ⟨p4, N4, c4, hN4, rfl, hl4, T4⟩
    obtain ⟨b0, b1, b2, b3, b4⟩ := G.out _ T4.bx
    have call5 := hid (HFIN.out w4 p4 N4 c4 hl4 hN4 T4)
    clear hN4 T4 HFIN call4 S3
    go_wp2_with fail
    refine Calls.mono call5.out ?_
    rintro e w5 ⟨p5, N5, c5, hN5, rfl, o5, g5⟩
    have HN5 := hid hN5
    clear hN5
    go_wp2_with fail
    go_ret
    exact HGOAL.out _ _ ⟨p5, N5, c5, HN5.out, rfl, o5, g5⟩
end Go.Proofs.Ytpiflgbcbhnmpaa
