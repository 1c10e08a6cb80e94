/- What appendList answers of commands. -/
import Derived.Test.YtpiflgbcbhnmpaaWcmd
namespace Go.Proofs.Ytpiflgbcbhnmpaa
open Go.RowKit
/-- Its fields are within what is written. -/
structure C6.Nn (c : C6) : Prop where
  k0 : 0 ≤ c.k
  k1 : c.k < 1000
  u0 : 0 ≤ c.u
  u1 : c.u < 4294967296
  t0 : 0 ≤ c.t
  t1 : c.t < 4294967296
  h0 : 0 ≤ c.h
  h1 : c.h < 1000
  x0 : 0 ≤ c.x
  x1 : c.x < 1000
  y0 : 0 ≤ c.y
  y1 : c.y < 1000
theorem C6.nn {c : C6} (h : c.ok = true) : c.Nn := by
  simp only [C6.ok, frm, inR, rng, Bool.and_eq_true, decide_eq_true_eq] at h
  constructor <;> omega
def C6.bytes (c : C6) : List Nat := cmdB c.k.toNat c.u.toNat c.t.toNat c.h.toNat c.x.toNat c.y.toNat
def cmdsB (cs : List C6) : List Nat := sev cs.length ++ cs.flatMap C6.bytes
theorem cmdB_len (k u t h x y : Nat) (hk : k < 1000) (hu : u < 4294967296) (ht : t < 4294967296) (hh : h < 1000) (hx : x < 1000) (hy : y < 1000) : (cmdB k u t h x y).length ≤ 60 := by
  have l1 := sev_len10 (n := k) (by omega)
  have l2 := sev_len10 (n := u) (by omega)
  have l3 := sev_len10 (n := t) (by omega)
  have l4 := sev_len10 (n := h) (by omega)
  have l5 := sev_len10 (n := x) (by omega)
  have l6 := sev_len10 (n := y) (by omega)
  unfold cmdB
  split <;> split <;> split <;> split <;> simp <;> omega
theorem CmdsAt.gro {w w' : World} {v v' : Value} {p : Option Addr} {N cap : Nat} {cs : List C6} (h : CmdsAt w (.slice p N cap) cs) (hg : Gro w v w' v') (hn : 0 < N → ∀ a, p = some a → v.ownBlock ≠ some a.block) : CmdsAt w' (.slice p N cap) cs := by
  obtain ⟨p', c', he, h⟩ := h
  simp at he
  obtain ⟨rfl, rfl, rfl⟩ := he
  refine ⟨p, cap, rfl, fun hne => ?_⟩
  obtain ⟨b, o, rfl, hc⟩ := h hne
  refine ⟨b, o, rfl, fun i c hi j u hu => ?_⟩
  have h9 := hc i c hi j u hu
  rw [World.cell?_of_block (w := w) (a := ⟨b, o + i * 6 + j, none⟩) (hg.block b (lt_of_cell h9) (hn (List.length_pos_iff.2 hne) _ rfl))]
  exact h9
/-- The block in which commands lie, where there are any, isn't the slice's own. -/
def Apart (w : World) (v : Value) (p : Option Addr) (N : Nat) : Prop := 0 < N → ∀ a, p = some a → v.ownBlock ≠ some a.block ∧ a.block < w.heap.size
theorem Apart.gro {w w' : World} {v v' : Value} {p : Option Addr} {N : Nat} (h : Apart w v p N) (hg : Gro w v w' v') : Apart w' v' p N := fun hn a ha => ⟨hg.ne (h hn a ha).2 (h hn a ha).1, Nat.lt_of_lt_of_le (h hn a ha).2 hg.size⟩
set_option maxRecDepth 100000 in
set_option maxHeartbeats 4000000 in
theorem appendList86 (cs : List C6) (hcs : ∀ c ∈ cs, c.Nn) (hcl : cs.length < 1000) (xs : List Nat) (base : Nat) (p : Option Addr) (M cap : Nat) (q : Option Addr) (N qc : Nat) (w : World) (hM : M = xs.length) (hN : N = cs.length) (ho : OwnB w base (.slice p M cap) xs) (hbase : base ≤ w.heap.size) (hsz : M < 10000000000) (hC : CmdsAt w (.slice q N qc) cs) (hA : Apart w (.slice p M cap) q N) :
    Calls Try.prog 86 #[.slice p M cap, .slice q N qc, .func (.func 87) #[] #[]] w fun e w' => OutG w (.slice p M cap) base (xs ++ cmdsB cs) e w' := by
  have hc1 := hid (appendInt85 N (by omega) xs base p M cap w hM ho hbase (by omega))
  have hcall := hid (show ∀ (c : C6) (L : List Nat) (p1 : Option Addr) (N1 c1 : Nat) (W : World), c.Nn → N1 = L.length → OwnB W base (.slice p1 N1 c1) L → base ≤ W.heap.size → N1 < 100000000000 → Calls Try.prog 87 #[.slice p1 N1 c1, .agg #[.int .i64 c.k, .int .i64 c.u, .int .i64 c.t, .int .i64 c.h, .int .i64 c.x, .int .i64 c.y]] W fun e w' => OutG W (.slice p1 N1 c1) base (L ++ c.bytes) e w' ∧ c.bytes.length ≤ 60 from fun c L p1 N1 c1 W hn h1 h2 h3 h4 => by
    obtain ⟨k, u, t, h, x, y⟩ := c
    obtain ⟨k0, k1, u0, u1, t0, t1, h0, h1', x0, x1, y0, y1⟩ := hn
    simp only at k0 k1 u0 u1 t0 t1 h0 h1' x0 x1 y0 y1
    have h9 := appendCommand87 k.toNat u.toNat t.toNat h.toNat x.toNat y.toNat (by omega) (by omega) (by omega) (by omega) (by omega) (by omega) L base p1 N1 c1 W h1 h2 h3 h4
    simp only [Int.toNat_of_nonneg k0, Int.toNat_of_nonneg u0, Int.toNat_of_nonneg t0, Int.toNat_of_nonneg h0, Int.toNat_of_nonneg x0, Int.toNat_of_nonneg y0] at h9
    exact h9.mono fun _ _ h8 => ⟨h8, cmdB_len k.toNat u.toNat t.toNat h.toNat x.toNat y.toNat (by omega) (by omega) (by omega) (by omega) (by omega) (by omega)⟩)
  have HN := hid hN
  have HCS := hid hcs
  have HC := hid hC
  have HA := hid hA
  have HMM := hid hM
  have hN1000 : N < 1000 := by omega
  have HB := hid hbase
  clear hN hC hA hM ho hcs hcl
  obtain ⟨v0, hv0⟩ : ∃ v0, v0 = Value.slice p M cap := ⟨_, rfl⟩
  have HV0 := hid hv0
  clear hv0
  go_enter Try.func86, Try.ntmps86
  go_wp2_with fail
  refine Calls.mono hc1.out ?_
  rintro e w1 ⟨p1, N1, c1, hN1, rfl, ho1, hg1⟩
  have hl10 := sev_len10 (n := N) (by omega)
  have hb1 : N1 ≤ M + 10 := by rw [hN1, List.length_append, ← HMM.out]; omega
  have HN1 := hid hN1
  have HO1 := hid ho1
  have HG1 := hid hg1
  clear hN1 ho1 hg1 hc1 hl10
  go_wp2_with fail
  go_loopw [0, 15] (fun v iv wr => ∃ (i : Nat) (p : Option Addr) (K c : Nat) (L : List Nat), v = .slice p K c ∧ iv = .int .i64 (i : Nat) ∧ i ≤ N ∧ K ≤ M + 10 + 60 * i ∧ Hid (K = L.length) ∧ Hid (xs ++ cmdsB cs = L ++ (cs.drop i).flatMap C6.bytes) ∧ Hid (OwnB wr base (.slice p K c) L) ∧ Hid (Gro w v0 wr (.slice p K c))) (fun _ iv _ => N - natOf iv)
  case atStart => exact ⟨0, p1, N1, c1, xs ++ sev N, rfl, rfl, by omega, by omega, HN1, by show _ = _; rw [List.drop_zero, List.append_assoc]; unfold cmdsB; rw [← HN.out], HO1, by rw [HV0.out]; exact HG1.out⟩
  case round =>
    clear HN1 HO1 HG1 hb1
    obtain ⟨i, p2, K, c2, L, rfl, rfl, hi, hK, hKL, hE, hO, hG⟩ := hrel
    have w1' : IntKind.i64.wrap ((i : Int) + 1) = (i : Int) + 1 := by rw [IntKind.wrap_i64]; omega
    by_cases hlt : i < N
    · have hlb : i < cs.length := by have := HN.out; omega
      obtain ⟨c, hci⟩ : ∃ c, cs[i]? = some c := ⟨_, List.getElem?_eq_getElem hlb⟩
      have hGv : Gro w (.slice p M cap) wr (.slice p2 K c2) := by rw [← HV0.out]; exact hG.out
      have hCr := HC.out.gro hGv (fun hn a ha => (HA.out hn a ha).1)
      obtain ⟨q', qc', he, hrow⟩ := hCr
      simp at he
      obtain ⟨rfl, hNc, rfl⟩ := he
      clear hNc
      obtain ⟨b, o, rfl, hcell⟩ := hrow (by rintro rfl; simp at hlb)
      have k0 : wr.cell? ⟨b, o + i * 6, none⟩ = some (.int .i64 c.k) := hcell i c hci 0 _ rfl
      have k1 := hcell i c hci 1 _ rfl
      have k2 := hcell i c hci 2 _ rfl
      have k3 := hcell i c hci 3 _ rfl
      have k4 := hcell i c hci 4 _ rfl
      have k5 := hcell i c hci 5 _ rfl
      have hcn := hid (HCS.out c (List.mem_of_getElem? hci))
      have HE2 : Hid (xs ++ cmdsB cs = (L ++ c.bytes) ++ (cs.drop (i + 1)).flatMap C6.bytes) := by
        show _ = _
        rw [hE.out, List.drop_eq_getElem_cons hlb, List.flatMap_cons, (List.getElem?_eq_some_iff.1 hci).2, List.append_assoc]
      have e2 : (i : Int) < (N : Int) := by omega
      have e3 : (0 : Int) ≤ (i : Int) := by omega
      have hlo := hid (show base ≤ wr.heap.size from Nat.le_trans HB.out hGv.size)
      have CL := hid (show ∀ o9, Calls Try.prog 87 #[.slice p2 K c2, .agg #[.int .i64 c.k, .int .i64 c.u, .int .i64 c.t, .int .i64 c.h, .int .i64 c.x, .int .i64 c.y]] (wr.alloc o9) fun e w' => OutG (wr.alloc o9) (.slice p2 K c2) base (L ++ c.bytes) e w' ∧ c.bytes.length ≤ 60 from fun o9 => hcall.out c L p2 K c2 (wr.alloc o9) hcn.out hKL.out (hO.out.below ((Below.refl _ _).alloc (Nat.le_refl _) _)) (Nat.le_trans hlo.out (by simp)) (by omega))
      have HGA := hid (show ∀ o9, Gro w v0 (wr.alloc o9) (.slice p2 K c2) from fun o9 => hG.out.alloc o9)
      generalize c.bytes = cb at *
      obtain ⟨k, u, t, h, x, y⟩ := c
      simp only at k0 k1 k2 k3 k4 k5 CL
      clear hcell hrow hci hE hGv hcn hO hG hlo
      go_wp2_with (go_at_call 87; refine Calls.mono (CL.out _) ?_; rintro e w5 ⟨⟨p5, N5, c5, hN5, rfl, ho5, hg5⟩, hcb⟩; have hK5 : N5 ≤ M + 10 + 60 * (i + 1) := (by rw [hN5, List.length_append, ← hKL.out]; omega); have HN5 := hid hN5; have HG5 := hid ((HGA.out _).trans hg5); clear hN5 hg5 hcb HGA)
      go_roundw
      case rel => exact ⟨i + 1, p5, N5, c5, L ++ cb, rfl, by go_num, by omega, hK5, HN5, HE2, ho5, HG5⟩
      case measure => simp [natOf]; omega
    · have e2 : ¬ (i : Int) < (N : Int) := by omega
      have HE2 : Hid (xs ++ cmdsB cs = L) := by
        show _ = _
        rw [hE.out, List.drop_eq_nil_of_le (by have := HN.out; omega)]; simp
      have HGF := hid (show Gro w (.slice p M cap) wr (.slice p2 K c2) by rw [← HV0.out]; exact hG.out)
      clear hE hG hcall
      go_wp2_with fail
      go_ret
      rw [HE2.out]
      exact ⟨p2, K, c2, hKL.out, rfl, hO.out, HGF.out⟩
end Go.Proofs.Ytpiflgbcbhnmpaa
