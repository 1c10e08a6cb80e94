/- The reference: the body of sealed commands. -/
import Derived.Test.YtpiflgbcbhnmpaaRsd
namespace Go.Proofs.Ytpiflgbcbhnmpaa
open Go.RowKit
theorem flatC_take (cs : List C6) (i : Nat) (hi : i < cs.length) (c : C6) (hc : cs[i]? = some c) : (cs.take (i + 1)).flatMap C6.bytes = (cs.take i).flatMap C6.bytes ++ c.bytes := by
  rw [List.take_succ_eq_append_getElem hi, List.flatMap_append]
  have : cs[i] = c := (List.getElem?_eq_some_iff.1 hc).2
  simp [this]
set_option maxRecDepth 100000 in
set_option maxHeartbeats 8000000 in
theorem rbody54 (d : Sd) (hd : d.Nn) (q : Option Addr) (N qc : Nat) (hN : N = d.cs.length) (xs : List Nat) (p : Option Addr) (M cap : Nat) (w : World) (hM : M = xs.length) (hB : BytesAt w (.slice p M cap) xs) (hsz : M < 1000000000) (hC : CmdsAt w (.slice q N qc) d.cs) :
    Calls Try.prog 54 #[.slice p M cap, .agg (d.cells (.slice q N qc)).toArray] w fun e w' => OutB w w.heap.size (xs ++ d.body) e w' := by
  have hup : Hid (∀ (n : Nat) (p1 : Option Addr) (N1 c1 : Nat) (L : List Nat) (W1 : World), n < 18446744073709551616 → BytesAt W1 (.slice p1 N1 c1) L → N1 = L.length → N1 < 100000000000 → Calls Try.prog 46 #[.slice p1 N1 c1, .int .u64 (n : Int)] W1 fun e w' => NumOk W1 N1 (L ++ sev n) e w') := refNum
  have hF : Hid (∀ (c : C6) (L : List Nat) (p : Option Addr) (M cap : Nat) (W : World), c.Nn → M = L.length → BytesAt W (.slice p M cap) L → M < 10000000000 → Calls Try.prog 84 #[.slice p M cap, .agg #[.int .i64 c.k, .int .i64 c.u, .int .i64 c.t, .int .i64 c.h, .int .i64 c.x, .int .i64 c.y]] W fun e w' => OutB W W.heap.size (L ++ c.bytes) e w' ∧ c.bytes.length ≤ 60) := fun c L p M cap W hc hM hB hsz => by
    obtain ⟨k, u, t, h, x, y⟩ := c
    obtain ⟨k0, k1, u0, u1, t0, t1, h0, h1, x0, x1, y0, y1⟩ := hc
    simp only at k0 k1 u0 u1 t0 t1 h0 h1 x0 x1 y0 y1
    obtain ⟨k, rfl⟩ : ∃ n : Nat, k = (n : Int) := ⟨k.toNat, by omega⟩
    obtain ⟨u, rfl⟩ : ∃ n : Nat, u = (n : Int) := ⟨u.toNat, by omega⟩
    obtain ⟨t, rfl⟩ : ∃ n : Nat, t = (n : Int) := ⟨t.toNat, by omega⟩
    obtain ⟨h, rfl⟩ : ∃ n : Nat, h = (n : Int) := ⟨h.toNat, by omega⟩
    obtain ⟨x, rfl⟩ : ∃ n : Nat, x = (n : Int) := ⟨x.toNat, by omega⟩
    obtain ⟨y, rfl⟩ : ∃ n : Nat, y = (n : Int) := ⟨y.toNat, by omega⟩
    have hl := cmdB_len k u t h x y (by omega) (by omega) (by omega) (by omega) (by omega) (by omega)
    exact (rcommand84 k u t h x y (by omega) (by omega) (by omega) (by omega) (by omega) (by omega) L p M cap W hM hB hsz).mono fun _ _ h => ⟨h, by simpa [C6.bytes] using hl⟩
  obtain ⟨W, hW⟩ : ∃ W, W = w.alloc (.cells (d.cells (.slice q N qc)).toArray 47) := ⟨_, rfl⟩
  obtain ⟨B, hBB⟩ : ∃ B, B = w.heap.size := ⟨_, rfl⟩
  have HBW : Hid (Below w.heap.size w W) := by rw [hW]; exact (Below.refl _ _).alloc (Nat.le_refl _) _
  have HQ : Hid (Blk W B (d.cells (.slice q N qc)) 47) := by rw [hW, hBB]; exact Blk.new _ _ _
  have HCW := hid (hC.below HBW.out)
  have HBY := hid (hB.below HBW.out)
  have H0 : Hid (d.cs ≠ [] → ∃ b o, q = some ⟨b, o, none⟩ ∧ ∀ (i : Nat) (c : C6), d.cs[i]? = some c → ∀ (j : Nat) (u : Value), c.cells[j]? = some u → W.cell? ⟨b, o + i * 6 + j, none⟩ = some u) := by
    obtain ⟨p', c', he, h⟩ := HCW.out
    simp at he
    obtain ⟨rfl, _, rfl⟩ := he
    exact h
  have HK : Hid (∀ w', Below W.heap.size W w' → w'.cell? ⟨B, 0, none⟩ = some (.int .u64 (d.m : Int)) ∧ w'.cell? ⟨B, 1, none⟩ = some (.int .i64 d.pl) ∧ w'.cell? ⟨B, 2, none⟩ = some (.int .i64 d.tn) ∧ w'.cell? ⟨B, 3, none⟩ = some (.bool d.em) ∧ w'.cell? ⟨B, 4, none⟩ = some (.slice q N qc)) := fun w' hb => by
    have hB := HQ.out.below hb HQ.out.lt
    exact ⟨hB.cell 0, hB.cell 1, hB.cell 2, hB.cell 3, hB.cell 4⟩
  have HBO : Hid (d.body = sev d.m ++ (sev d.pl.toNat ++ (sev d.tn.toNat ++ (sev (if d.em then 1 else 0) ++ (sev N ++ d.cs.flatMap C6.bytes))))) := by rw [hN]; rfl
  obtain ⟨BO, hBO⟩ : ∃ BO, BO = d.body := ⟨_, rfl⟩
  rw [← hBO] at HBO ⊢
  have HM := hid hM
  have HN := hid hN
  obtain ⟨m, pl, tn, em, cs, tag⟩ := d
  obtain ⟨hm, p0, p1, t0, t1, hcl, hcn, htg⟩ := hd
  simp only at hm p0 p1 t0 t1 hcl hcn HK HBO H0 HN
  obtain ⟨pl, rfl⟩ : ∃ n : Nat, pl = (n : Int) := ⟨pl.toNat, by omega⟩
  obtain ⟨tn, rfl⟩ : ∃ n : Nat, tn = (n : Int) := ⟨tn.toNat, by omega⟩
  simp only [Int.toNat_natCast] at HBO
  have HCN := hid hcn
  have hNb : N < 1000 := by have := HN.out; omega
  obtain ⟨X, hX⟩ : ∃ X, X = (⟨m, (pl : Int), (tn : Int), em, cs, tag⟩ : Sd).cells (.slice q N qc) := ⟨_, rfl⟩
  rw [← hX] at hW ⊢
  unfold NumOk at hup
  clear hC hN HQ HCW hBO hX hB hM hcn hcl htg
  obtain ⟨a0, a1, a2, a3, a4⟩ := HK.out W (Below.refl _ _)
  go_enter Try.func54, Try.ntmps54
  go_upto_region 1 with fail
  rw [← hW, ← hBB]
  clear hW hBB
  go_wp2_with fail
  refine Calls.mono (hup.out m p M cap xs _ (by omega) HBY.out HM.out (by omega)) ?_
  rintro e v1 ⟨p1, N1, c1, hN1, rfl, hl1, ho1, hb1⟩
  have HB1 : Hid (Below W.heap.size W v1) := hb1
  have HO1 : Hid (OwnB v1 w.heap.size (.slice p1 N1 c1) (xs ++ sev m)) := ho1.mono (Nat.le_trans HBW.out.size (Nat.le_refl _))
  have HN1 := hid hN1
  clear ho1 hb1 hN1
  clear a0 a1 a2 a3 a4
  obtain ⟨a0, a1, a2, a3, a4⟩ := HK.out _ HB1.out
  go_wp2_with fail
  refine Calls.mono (hup.out pl p1 N1 c1 (xs ++ sev m) _ (by omega) HO1.out.bytes HN1.out (by omega)) ?_
  rintro e v2 ⟨p2, N2, c2, hN2, rfl, hl2, ho2, hb2⟩
  have HB2 : Hid (Below W.heap.size W v2) := HB1.out.trans (hb2.mono HB1.out.size)
  have HO2 : Hid (OwnB v2 w.heap.size (.slice p2 N2 c2) ((xs ++ sev m) ++ sev pl)) := ho2.mono (Nat.le_trans HBW.out.size HB1.out.size)
  have HN2 := hid hN2
  clear ho2 hb2 hN2
  clear a0 a1 a2 a3 a4
  obtain ⟨a0, a1, a2, a3, a4⟩ := HK.out _ HB2.out
  go_wp2_with fail
  refine Calls.mono (hup.out tn p2 N2 c2 ((xs ++ sev m) ++ sev pl) _ (by omega) HO2.out.bytes HN2.out (by omega)) ?_
  rintro e v3 ⟨p3, N3, c3, hN3, rfl, hl3, ho3, hb3⟩
  have HB3 : Hid (Below W.heap.size W v3) := HB2.out.trans (hb3.mono HB2.out.size)
  have HO3 : Hid (OwnB v3 w.heap.size (.slice p3 N3 c3) (((xs ++ sev m) ++ sev pl) ++ sev tn)) := ho3.mono (Nat.le_trans HBW.out.size HB2.out.size)
  have HN3 := hid hN3
  clear ho3 hb3 hN3
  clear a0 a1 a2 a3 a4
  obtain ⟨a0, a1, a2, a3, a4⟩ := HK.out _ HB3.out
  rcases em with _ | _
  · obtain ⟨ES, hES⟩ : ∃ ES, ES = sev 0 := ⟨_, rfl⟩
    have hc4 : Hid (Calls Try.prog 46 #[.slice p3 N3 c3, .int .u64 0] v3 fun e w' => ∃ p2 N2 c2, N2 = ((((xs ++ sev m) ++ sev pl) ++ sev tn) ++ sev 0).length ∧ e = .returned (.slice p2 N2 c2) ∧ N2 ≤ N3 + 10 ∧ OwnB w' v3.heap.size (.slice p2 N2 c2) ((((xs ++ sev m) ++ sev pl) ++ sev tn) ++ sev 0) ∧ Below v3.heap.size v3 w') := hup.out 0 p3 N3 c3 (((xs ++ sev m) ++ sev pl) ++ sev tn) v3 (by omega) HO3.out.bytes HN3.out (by omega)
    have HBO1 : Hid (BO = sev m ++ (sev pl ++ (sev tn ++ (ES ++ (sev N ++ cs.flatMap C6.bytes))))) := by rw [HBO.out, hES]; rfl
    rw [← hES] at hc4
    clear HBO hES
    go_wp2_with fail
    refine Calls.mono hc4.out ?_
    rintro e v4 ⟨p4, N4, c4, hN4, rfl, hl4, ho4, hb4⟩
    have HB4 : Hid (Below W.heap.size W v4) := HB3.out.trans (hb4.mono HB3.out.size)
    have HO4 : Hid (OwnB v4 w.heap.size (.slice p4 N4 c4) ((((xs ++ sev m) ++ sev pl) ++ sev tn) ++ ES)) := ho4.mono (Nat.le_trans HBW.out.size HB3.out.size)
    have HN4 := hid hN4
    clear ho4 hb4 hN4
    clear a0 a1 a2 a3 a4
    obtain ⟨a0, a1, a2, a3, a4⟩ := HK.out _ HB4.out
    go_wp2_with fail
    refine Calls.mono (hup.out N p4 N4 c4 ((((xs ++ sev m) ++ sev pl) ++ sev tn) ++ ES) _ (by omega) HO4.out.bytes HN4.out (by omega)) ?_
    rintro e v5 ⟨p5, N5, c5, hN5, rfl, hl5, ho5, hb5⟩
    have HB5 : Hid (Below W.heap.size W v5) := HB4.out.trans (hb5.mono HB4.out.size)
    have HO5 : Hid (OwnB v5 w.heap.size (.slice p5 N5 c5) (((((xs ++ sev m) ++ sev pl) ++ sev tn) ++ ES) ++ sev N)) := ho5.mono (Nat.le_trans HBW.out.size HB4.out.size)
    have HN5 := hid hN5
    clear ho5 hb5 hN5
    clear a0 a1 a2 a3 a4
    obtain ⟨a0, a1, a2, a3, a4⟩ := HK.out _ HB5.out
    have HBO2 : Hid (xs ++ BO = (((((xs ++ sev m) ++ sev pl) ++ sev tn) ++ ES) ++ sev N) ++ cs.flatMap C6.bytes) := by rw [HBO1.out]; exact hid (by simp only [List.append_assoc])
    have hN5 : N5 ≤ M + 50 := by omega
    obtain ⟨L5, hL5⟩ : ∃ L5, L5 = (((((xs ++ sev m) ++ sev pl) ++ sev tn) ++ ES) ++ sev N) := ⟨_, rfl⟩
    rw [← hL5] at HBO2 HO5 HN5
    clear hL5 HO1 HO2 HO3 HO4 HN1 HN2 HN3 HN4 hl1 hl2 hl3 hl4 hl5 HBO1 HB1 HB2 HB3 HB4
    go_wp2_with fail
    go_loopw [0, 6] (fun v iv wr => ∃ (p : Option Addr) (K c i : Nat), v = .slice p K c ∧ iv = .int .i64 (i : Nat) ∧ i ≤ N ∧ Hid (K = (L5 ++ (cs.take i).flatMap C6.bytes).length) ∧ K ≤ M + 50 + 60 * i ∧ Hid (OwnB wr w.heap.size (.slice p K c) (L5 ++ (cs.take i).flatMap C6.bytes)) ∧ Hid (Below W.heap.size W wr)) (fun _ iv _ => N - (intOf iv).toNat)
    case atStart => exact ⟨p5, N5, c5, 0, rfl, rfl, by omega, by simpa using HN5, by omega, by simpa using HO5, HB5⟩
    case round =>
      clear a0 a1 a2 a3 a4 HB5 HO5 HN5
      obtain ⟨pr, K, c, i, rfl, rfl, hi, HK2, hKb, HO, hbe⟩ := hrel
      obtain ⟨a0, a1, a2, a3, a4⟩ := HK.out wr hbe.out
      by_cases hlt : i < N
      · have hlb : i < cs.length := by have := HN.out; omega
        have hne : cs ≠ [] := by rintro rfl; simp at hlb
        obtain ⟨b, o, rfl, hc⟩ := H0.out hne
        obtain ⟨cc, hci⟩ : ∃ c, cs[i]? = some c := ⟨_, List.getElem?_eq_getElem hlb⟩
        have hcc : ∀ (j : Nat) (u : Value), cc.cells[j]? = some u → wr.cell? ⟨b, o + i * 6 + j, none⟩ = some u := fun j u hu => by
          have := hc i cc hci j u hu
          rw [hbe.out.cell (p := ⟨b, o + i * 6 + j, none⟩) (lt_of_cell this)]; exact this
        have g0 : wr.cell? ⟨b, o + i * 6, none⟩ = some (.int .i64 cc.k) := hcc 0 _ rfl
        have g1 := hcc 1 _ rfl
        have g2 := hcc 2 _ rfl
        have g3 := hcc 3 _ rfl
        have g4 := hcc 4 _ rfl
        have g5 := hcc 5 _ rfl
        have HTK := hid (flatC_take cs i hlb cc hci)
        have e2 : (i : Int) < (N : Int) := by omega
        have e3 : (0 : Int) ≤ (i : Int) := by omega
        have hcall := hid (hF.out cc _ pr K c wr (HCN.out cc (List.mem_of_getElem? hci)) HK2.out HO.out.bytes (by omega))
        obtain ⟨k, u, t, h, x, y⟩ := cc
        simp only at g0 g1 g2 g3 g4 g5 hcall
        unfold OutB at hcall
        obtain ⟨L6, hL6⟩ : ∃ L6, L6 = L5 ++ (cs.take i).flatMap C6.bytes := ⟨_, rfl⟩
        have HL7 : Hid (L5 ++ (cs.take (i + 1)).flatMap C6.bytes = L6 ++ (⟨k, u, t, h, x, y⟩ : C6).bytes) := by rw [HTK.out, hL6]; exact hid (by simp only [List.append_assoc])
        rw [← hL6] at hcall HK2
        have HKL := hid HK2.out
        have HKB := hid (show ∀ K2 L, L = (⟨k, u, t, h, x, y⟩ : C6).bytes → K2 = (L6 ++ L).length → L.length ≤ 60 → K2 ≤ M + 50 + 60 * (i + 1) from fun K2 L _ h2 h3 => by rw [h2, List.length_append, ← HKL.out]; omega)
        clear hcc hc hci hne HO HK2 HTK hL6
        go_wp2_with fail
        refine Calls.mono hcall.out ?_
        rintro e w2 ⟨⟨p6, K6, c6, hK6, rfl, ho6, hb6⟩, hbl⟩
        have HB6 := hid (hbe.out.trans (hb6.mono hbe.out.size))
        have HO6 := hid (ho6.mono (Nat.le_trans HBW.out.size hbe.out.size))
        have HK6 := hid hK6
        have hK6b := HKB.out K6 _ rfl hK6 hbl
        clear hcall hK6 hbl ho6 hb6 a0 a1 a2 a3 a4
        go_wp2
        go_roundw
        case rel => exact ⟨p6, K6, c6, i + 1, rfl, by go_num, by omega, by rw [HL7.out]; exact HK6, hK6b, by rw [HL7.out]; exact HO6, HB6⟩
        case measure => simp [intOf]; omega
      · obtain rfl : i = N := by omega
        have e2 : ((i : Int) < (i : Int)) = False := by simp
        have HT : Hid (cs.take i = cs) := by rw [HN.out]; exact hid List.take_length
        rw [HT.out] at HO HK2
        rw [← HBO2.out] at HO HK2
        go_wp2
        go_ret
        exact ⟨pr, K, c, HK2.out, rfl, HO.out, HBW.out.trans (hbe.out.mono HBW.out.size)⟩

  · obtain ⟨ES, hES⟩ : ∃ ES, ES = sev 1 := ⟨_, rfl⟩
    have hc4 : Hid (Calls Try.prog 46 #[.slice p3 N3 c3, .int .u64 1] v3 fun e w' => ∃ p2 N2 c2, N2 = ((((xs ++ sev m) ++ sev pl) ++ sev tn) ++ sev 1).length ∧ e = .returned (.slice p2 N2 c2) ∧ N2 ≤ N3 + 10 ∧ OwnB w' v3.heap.size (.slice p2 N2 c2) ((((xs ++ sev m) ++ sev pl) ++ sev tn) ++ sev 1) ∧ Below v3.heap.size v3 w') := hup.out 1 p3 N3 c3 (((xs ++ sev m) ++ sev pl) ++ sev tn) v3 (by omega) HO3.out.bytes HN3.out (by omega)
    have HBO1 : Hid (BO = sev m ++ (sev pl ++ (sev tn ++ (ES ++ (sev N ++ cs.flatMap C6.bytes))))) := by rw [HBO.out, hES]; rfl
    rw [← hES] at hc4
    clear HBO hES
    go_wp2_with fail
    refine Calls.mono hc4.out ?_
    rintro e v4 ⟨p4, N4, c4, hN4, rfl, hl4, ho4, hb4⟩
    have HB4 : Hid (Below W.heap.size W v4) := HB3.out.trans (hb4.mono HB3.out.size)
    have HO4 : Hid (OwnB v4 w.heap.size (.slice p4 N4 c4) ((((xs ++ sev m) ++ sev pl) ++ sev tn) ++ ES)) := ho4.mono (Nat.le_trans HBW.out.size HB3.out.size)
    have HN4 := hid hN4
    clear ho4 hb4 hN4
    clear a0 a1 a2 a3 a4
    obtain ⟨a0, a1, a2, a3, a4⟩ := HK.out _ HB4.out
    go_wp2_with fail
    refine Calls.mono (hup.out N p4 N4 c4 ((((xs ++ sev m) ++ sev pl) ++ sev tn) ++ ES) _ (by omega) HO4.out.bytes HN4.out (by omega)) ?_
    rintro e v5 ⟨p5, N5, c5, hN5, rfl, hl5, ho5, hb5⟩
    have HB5 : Hid (Below W.heap.size W v5) := HB4.out.trans (hb5.mono HB4.out.size)
    have HO5 : Hid (OwnB v5 w.heap.size (.slice p5 N5 c5) (((((xs ++ sev m) ++ sev pl) ++ sev tn) ++ ES) ++ sev N)) := ho5.mono (Nat.le_trans HBW.out.size HB4.out.size)
    have HN5 := hid hN5
    clear ho5 hb5 hN5
    clear a0 a1 a2 a3 a4
    obtain ⟨a0, a1, a2, a3, a4⟩ := HK.out _ HB5.out
    have HBO2 : Hid (xs ++ BO = (((((xs ++ sev m) ++ sev pl) ++ sev tn) ++ ES) ++ sev N) ++ cs.flatMap C6.bytes) := by rw [HBO1.out]; exact hid (by simp only [List.append_assoc])
    have hN5 : N5 ≤ M + 50 := by omega
    obtain ⟨L5, hL5⟩ : ∃ L5, L5 = (((((xs ++ sev m) ++ sev pl) ++ sev tn) ++ ES) ++ sev N) := ⟨_, rfl⟩
    rw [← hL5] at HBO2 HO5 HN5
    clear hL5 HO1 HO2 HO3 HO4 HN1 HN2 HN3 HN4 hl1 hl2 hl3 hl4 hl5 HBO1 HB1 HB2 HB3 HB4
    go_wp2_with fail
    go_loopw [0, 6] (fun v iv wr => ∃ (p : Option Addr) (K c i : Nat), v = .slice p K c ∧ iv = .int .i64 (i : Nat) ∧ i ≤ N ∧ Hid (K = (L5 ++ (cs.take i).flatMap C6.bytes).length) ∧ K ≤ M + 50 + 60 * i ∧ Hid (OwnB wr w.heap.size (.slice p K c) (L5 ++ (cs.take i).flatMap C6.bytes)) ∧ Hid (Below W.heap.size W wr)) (fun _ iv _ => N - (intOf iv).toNat)
    case atStart => exact ⟨p5, N5, c5, 0, rfl, rfl, by omega, by simpa using HN5, by omega, by simpa using HO5, HB5⟩
    case round =>
      clear a0 a1 a2 a3 a4 HB5 HO5 HN5
      obtain ⟨pr, K, c, i, rfl, rfl, hi, HK2, hKb, HO, hbe⟩ := hrel
      obtain ⟨a0, a1, a2, a3, a4⟩ := HK.out wr hbe.out
      by_cases hlt : i < N
      · have hlb : i < cs.length := by have := HN.out; omega
        have hne : cs ≠ [] := by rintro rfl; simp at hlb
        obtain ⟨b, o, rfl, hc⟩ := H0.out hne
        obtain ⟨cc, hci⟩ : ∃ c, cs[i]? = some c := ⟨_, List.getElem?_eq_getElem hlb⟩
        have hcc : ∀ (j : Nat) (u : Value), cc.cells[j]? = some u → wr.cell? ⟨b, o + i * 6 + j, none⟩ = some u := fun j u hu => by
          have := hc i cc hci j u hu
          rw [hbe.out.cell (p := ⟨b, o + i * 6 + j, none⟩) (lt_of_cell this)]; exact this
        have g0 : wr.cell? ⟨b, o + i * 6, none⟩ = some (.int .i64 cc.k) := hcc 0 _ rfl
        have g1 := hcc 1 _ rfl
        have g2 := hcc 2 _ rfl
        have g3 := hcc 3 _ rfl
        have g4 := hcc 4 _ rfl
        have g5 := hcc 5 _ rfl
        have HTK := hid (flatC_take cs i hlb cc hci)
        have e2 : (i : Int) < (N : Int) := by omega
        have e3 : (0 : Int) ≤ (i : Int) := by omega
        have hcall := hid (hF.out cc _ pr K c wr (HCN.out cc (List.mem_of_getElem? hci)) HK2.out HO.out.bytes (by omega))
        obtain ⟨k, u, t, h, x, y⟩ := cc
        simp only at g0 g1 g2 g3 g4 g5 hcall
        unfold OutB at hcall
        obtain ⟨L6, hL6⟩ : ∃ L6, L6 = L5 ++ (cs.take i).flatMap C6.bytes := ⟨_, rfl⟩
        have HL7 : Hid (L5 ++ (cs.take (i + 1)).flatMap C6.bytes = L6 ++ (⟨k, u, t, h, x, y⟩ : C6).bytes) := by rw [HTK.out, hL6]; exact hid (by simp only [List.append_assoc])
        rw [← hL6] at hcall HK2
        have HKL := hid HK2.out
        have HKB := hid (show ∀ K2 L, L = (⟨k, u, t, h, x, y⟩ : C6).bytes → K2 = (L6 ++ L).length → L.length ≤ 60 → K2 ≤ M + 50 + 60 * (i + 1) from fun K2 L _ h2 h3 => by rw [h2, List.length_append, ← HKL.out]; omega)
        clear hcc hc hci hne HO HK2 HTK hL6
        go_wp2_with fail
        refine Calls.mono hcall.out ?_
        rintro e w2 ⟨⟨p6, K6, c6, hK6, rfl, ho6, hb6⟩, hbl⟩
        have HB6 := hid (hbe.out.trans (hb6.mono hbe.out.size))
        have HO6 := hid (ho6.mono (Nat.le_trans HBW.out.size hbe.out.size))
        have HK6 := hid hK6
        have hK6b := HKB.out K6 _ rfl hK6 hbl
        clear hcall hK6 hbl ho6 hb6 a0 a1 a2 a3 a4
        go_wp2
        go_roundw
        case rel => exact ⟨p6, K6, c6, i + 1, rfl, by go_num, by omega, by rw [HL7.out]; exact HK6, hK6b, by rw [HL7.out]; exact HO6, HB6⟩
        case measure => simp [intOf]; omega
      · obtain rfl : i = N := by omega
        have e2 : ((i : Int) < (i : Int)) = False := by simp
        have HT : Hid (cs.take i = cs) := by rw [HN.out]; exact hid List.take_length
        rw [HT.out] at HO HK2
        rw [← HBO2.out] at HO HK2
        go_wp2
        go_ret
        exact ⟨pr, K, c, HK2.out, rfl, HO.out, HBW.out.trans (hbe.out.mono HBW.out.size)⟩

end Go.Proofs.Ytpiflgbcbhnmpaa
