/- The reference: are sealed commands formed; their body. -/
import Derived.Test.YtpiflgbcbhnmpaaRcmd
/- The reference: are sealed commands formed; their body. -/
namespace Go.Proofs.Ytpiflgbcbhnmpaa
open Go.RowKit
set_option maxRecDepth 100000 in
set_option maxHeartbeats 8000000 in
theorem rsealed53 (d : Sd) (hm : d.m < 18446744073709551616) (p : Option Addr) (N cap : Nat) (w : World) (hN : N = d.cs.length) (h : CmdsAt w (.slice p N cap) d.cs) (hsz : N < 1000000000) :
    Calls Try.prog 53 #[.agg (d.cells (.slice p N cap)).toArray] w fun e w' => e = .returned (.bool d.ok) ∧ Below w.heap.size w w' := by
  have hw : Hid (∀ a b q W, rng a (b - 1) = q → Calls Try.prog 59 #[.int .i64 a, .int .i64 b] W fun e w' => e = .returned (.bool q) ∧ w' = W) := fun a b q W h => by rw [← h]; exact within59 a b W
  have hF : Hid (∀ (c : C6) W, Calls Try.prog 25 #[.agg #[.int .i64 c.k, .int .i64 c.u, .int .i64 c.t, .int .i64 c.h, .int .i64 c.x, .int .i64 c.y]] W fun e w' => e = .returned (.bool c.ok) ∧ Below W.heap.size W w') := fun c W => formed25 _ _ _ _ _ _ W
  obtain ⟨W, hW⟩ : ∃ W, W = w.alloc (.cells (d.cells (.slice p N cap)).toArray 47) := ⟨_, rfl⟩
  obtain ⟨B, hBB⟩ : ∃ B, B = w.heap.size := ⟨_, rfl⟩
  have HBW : Hid (Below w.heap.size w W) := by rw [hW]; exact (Below.refl _ _).alloc (Nat.le_refl _) _
  have HQ : Hid (Blk W B (d.cells (.slice p N cap)) 47) := by rw [hW, hBB]; exact Blk.new _ _ _
  have HCW := hid (h.below HBW.out)
  have H0 : Hid (d.cs ≠ [] → ∃ b o, p = some ⟨b, o, none⟩ ∧ ∀ (i : Nat) (c : C6), d.cs[i]? = some c → ∀ (j : Nat) (u : Value), c.cells[j]? = some u → W.cell? ⟨b, o + i * 6 + j, none⟩ = some u) := by
    obtain ⟨p', c', he, h⟩ := HCW.out
    simp at he
    obtain ⟨rfl, _, rfl⟩ := he
    exact h
  have HK : Hid (∀ w', Below W.heap.size W w' → w'.cell? ⟨B, 0, none⟩ = some (.int .u64 (d.m : Int)) ∧ w'.cell? ⟨B, 1, none⟩ = some (.int .i64 d.pl) ∧ w'.cell? ⟨B, 2, none⟩ = some (.int .i64 d.tn) ∧ w'.cell? ⟨B, 3, none⟩ = some (.bool d.em) ∧ w'.cell? ⟨B, 4, none⟩ = some (.slice p N cap)) := fun w' hb => by
    have hB := HQ.out.below hb HQ.out.lt
    exact ⟨hB.cell 0, hB.cell 1, hB.cell 2, hB.cell 3, hB.cell 4⟩
  have HOK : Hid (d.ok = (decide (d.m ≤ 9223372036854775807) && rng d.pl 3 && rng d.tn 59 && !(d.em && decide (0 < N)) && (decide (N ≤ 5) && d.cs.all C6.ok))) := by
    rw [hN]; rfl
  have HN := hid hN
  obtain ⟨R, hR⟩ : ∃ R, R = d.ok := ⟨_, rfl⟩
  rw [← hR] at HOK ⊢
  obtain ⟨m, pl, tn, em, cs, tag⟩ := d
  simp only at hm HK HOK H0 HN
  obtain ⟨X, hX⟩ : ∃ X, X = (⟨m, pl, tn, em, cs, tag⟩ : Sd).cells (.slice p N cap) := ⟨_, rfl⟩
  rw [← hX] at hW ⊢
  clear h hN HQ HCW hR hX
  obtain ⟨a0, a1, a2, a3, a4⟩ := HK.out W (Below.refl _ _)
  rcases r1 : rng pl (4 - 1) with _ | _
  · have hF' : R = false := by rw [HOK.out, show rng pl 3 = false from r1]; simp
    subst hF'
    go_enter Try.func53, Try.ntmps53
    go_upto_region 1 with fail
    rw [← hW, ← hBB]
    clear hW hBB
    go_wp2_with (go_at_call 59; with_reducible refine Calls.mono (hw.out _ _ false _ r1) ?_; rintro e w3 ⟨rfl, hh⟩; replace hh := hh.symm; subst hh)
    go_ret
    exact ⟨rfl, HBW.out⟩
  rcases r2 : rng tn (60 - 1) with _ | _
  · have hF' : R = false := by rw [HOK.out, show rng tn 59 = false from r2]; simp
    subst hF'
    go_enter Try.func53, Try.ntmps53
    go_upto_region 1 with fail
    rw [← hW, ← hBB]
    clear hW hBB
    go_wp2_with (first
      | (go_at_call 59; with_reducible refine Calls.mono (hw.out _ _ true _ r1) ?_; rintro e w3 ⟨rfl, hh⟩; replace hh := hh.symm; subst hh)
      | (go_at_call 59; with_reducible refine Calls.mono (hw.out _ _ false _ r2) ?_; rintro e w3 ⟨rfl, hh⟩; replace hh := hh.symm; subst hh))
    go_ret
    exact ⟨rfl, HBW.out⟩
  by_cases g3 : m ≤ 9223372036854775807
  case neg =>
    have hF' : R = false := by rw [HOK.out, decide_eq_false g3]; simp
    subst hF'
    have b1 : (9223372036854775807 : Int) < (m : Int) := by omega
    go_enter Try.func53, Try.ntmps53
    go_upto_region 1 with fail
    rw [← hW, ← hBB]
    clear hW hBB
    go_wp2_with (first
      | (go_at_call 59; with_reducible refine Calls.mono (hw.out _ _ true _ r1) ?_; rintro e w3 ⟨rfl, hh⟩; replace hh := hh.symm; subst hh)
      | (go_at_call 59; with_reducible refine Calls.mono (hw.out _ _ true _ r2) ?_; rintro e w3 ⟨rfl, hh⟩; replace hh := hh.symm; subst hh))
    go_ret
    exact ⟨rfl, HBW.out⟩
  have b1 : ((9223372036854775807 : Int) < (m : Int)) = False := by simp; omega
  by_cases g4 : N ≤ 5
  case neg =>
    have hF' : R = false := by rw [HOK.out, decide_eq_false g4]; simp
    subst hF'
    have b2 : (5 : Int) < (N : Int) := by omega
    go_enter Try.func53, Try.ntmps53
    go_upto_region 1 with fail
    rw [← hW, ← hBB]
    clear hW hBB
    go_wp2_with (first
      | (go_at_call 59; with_reducible refine Calls.mono (hw.out _ _ true _ r1) ?_; rintro e w3 ⟨rfl, hh⟩; replace hh := hh.symm; subst hh)
      | (go_at_call 59; with_reducible refine Calls.mono (hw.out _ _ true _ r2) ?_; rintro e w3 ⟨rfl, hh⟩; replace hh := hh.symm; subst hh))
    go_ret
    exact ⟨rfl, HBW.out⟩
  have b2 : ((5 : Int) < (N : Int)) = False := by simp; omega
  have b5 : (N : Int) ≤ 5 := by omega
  by_cases g5 : em = true ∧ 0 < N
  · obtain ⟨rfl, g6⟩ := g5
    have hF' : R = false := by rw [HOK.out, decide_eq_true g6]; simp
    subst hF'
    have b3 : (0 : Int) < (N : Int) := by omega
    go_enter Try.func53, Try.ntmps53
    go_upto_region 1 with fail
    rw [← hW, ← hBB]
    clear hW hBB
    go_wp2_with (first
      | (go_at_call 59; with_reducible refine Calls.mono (hw.out _ _ true _ r1) ?_; rintro e w3 ⟨rfl, hh⟩; replace hh := hh.symm; subst hh)
      | (go_at_call 59; with_reducible refine Calls.mono (hw.out _ _ true _ r2) ?_; rintro e w3 ⟨rfl, hh⟩; replace hh := hh.symm; subst hh))
    go_ret
    exact ⟨rfl, HBW.out⟩
  have hR2 : Hid (R = cs.all C6.ok) := by
    show _ = _
    rw [HOK.out, decide_eq_true g3, show rng pl 3 = true from r1, show rng tn 59 = true from r2, decide_eq_true g4]
    have : (em && decide (0 < N)) = false := by
      rcases em with _ | _
      · rfl
      · have : ¬ 0 < N := fun h => g5 ⟨rfl, h⟩
        simp [this]
    rw [this]; simp
  have hem : em = false ∨ (em = true ∧ (0 < N) = False) := by
    rcases em with _ | _
    · exact Or.inl rfl
    · exact Or.inr ⟨rfl, eq_false fun h => g5 ⟨rfl, h⟩⟩
  clear HOK g5 g3 g4
  rcases hem with rfl | ⟨rfl, b4⟩
  all_goals
    go_enter Try.func53, Try.ntmps53
    go_upto_region 1 with fail
    rw [← hW, ← hBB]
    clear hW hBB
    go_wp2_with (first
      | (go_at_call 59; with_reducible refine Calls.mono (hw.out _ _ true _ r1) ?_; rintro e w3 ⟨rfl, hh⟩; replace hh := hh.symm; subst hh)
      | (go_at_call 59; with_reducible refine Calls.mono (hw.out _ _ true _ r2) ?_; rintro e w3 ⟨rfl, hh⟩; replace hh := hh.symm; subst hh))
    go_loopw [3] (fun iv wr => ∃ i : Nat, iv = .int .i64 (i : Nat) ∧ i ≤ N ∧ Hid (R = (cs.drop i).all C6.ok) ∧ Hid (Below W.heap.size W wr)) (fun iv _ => N - (intOf iv).toNat)
    case atStart => exact ⟨0, rfl, by omega, hR2, Below.refl _ _⟩
    case round =>
      clear a0 a1 a2 a3 a4
      obtain ⟨i, rfl, hi, hA, hbe⟩ := hrel
      obtain ⟨a0, a1, a2, a3, a4⟩ := HK.out wr hbe.out
      by_cases hlt : i < N
      · have hlb : i < cs.length := by have := HN.out; omega
        have hne : cs ≠ [] := by rintro rfl; simp at hlb
        obtain ⟨b, o, rfl, hc⟩ := H0.out hne
        obtain ⟨c, hci⟩ : ∃ c, cs[i]? = some c := ⟨_, List.getElem?_eq_getElem hlb⟩
        have hcc : ∀ (j : Nat) (u : Value), c.cells[j]? = some u → wr.cell? ⟨b, o + i * 6 + j, none⟩ = some u := fun j u hu => by
          have := hc i c hci j u hu
          rw [hbe.out.cell (p := ⟨b, o + i * 6 + j, none⟩) (lt_of_cell this)]; exact this
        have c0 : wr.cell? ⟨b, o + i * 6, none⟩ = some (.int .i64 c.k) := hcc 0 _ rfl
        have c1 := hcc 1 _ rfl
        have c2 := hcc 2 _ rfl
        have c3 := hcc 3 _ rfl
        have c4 := hcc 4 _ rfl
        have c5 := hcc 5 _ rfl
        have HA2 : Hid (R = (c.ok && (cs.drop (i + 1)).all C6.ok)) := by
          show _ = _
          rw [hA.out, List.drop_eq_getElem_cons hlb, List.all_cons, (List.getElem?_eq_some_iff.1 hci).2]
        have e2 : (i : Int) < (N : Int) := by omega
        have e3 : (0 : Int) ≤ (i : Int) := by omega
        have hcall := hid (hF.out c)
        obtain ⟨q, hq⟩ : ∃ q, q = c.ok := ⟨_, rfl⟩
        rw [← hq] at HA2 hcall
        obtain ⟨k, u, t, h, x, y⟩ := c
        simp only at c0 c1 c2 c3 c4 c5 hcall
        clear hcc hc hci hA hne hq hR2
        rcases q with _ | _
        · go_wp2_with (go_at_call 25; refine Calls.mono (hcall.out _) ?_; rintro e w2 ⟨rfl, hb2⟩)
          go_ret
          exact ⟨by rw [HA2.out]; rfl, HBW.out.trans ((hbe.out.trans (hb2.mono hbe.out.size)).mono HBW.out.size)⟩
        · rw [Bool.true_and] at HA2
          go_wp2_with (go_at_call 25; refine Calls.mono (hcall.out _) ?_; rintro e w2 ⟨rfl, hb2⟩)
          go_roundw
          case rel => exact ⟨i + 1, by go_num, by omega, HA2, hbe.out.trans (hb2.mono hbe.out.size)⟩
          case measure => simp [intOf]; omega
      · have e2 : ((i : Int) < (N : Int)) = False := by simp; omega
        have HA2 : Hid (R = true) := by
          show _ = _
          rw [hA.out, List.drop_eq_nil_of_le (by have := HN.out; omega)]; rfl
        clear hA hR2
        go_wp2_with fail
        go_ret
        exact ⟨by rw [HA2.out]; rfl, HBW.out.trans (hbe.out.mono HBW.out.size)⟩
end Go.Proofs.Ytpiflgbcbhnmpaa
/- The reference: the body of sealed commands. -/
namespace Go.Proofs.Ytpiflgbcbhnmpaa
open Go.RowKit
theorem flatC_take (cs : List C6) (i : Nat) (hi : i < cs.length) (c : C6) (hc : cs[i]? = some c) : (cs.take (i + 1)).flatMap C6.bytes = (cs.take i).flatMap C6.bytes ++ c.bytes := by
  rw [List.take_succ_eq_append_getElem hi, List.flatMap_append]
  have : cs[i] = c := (List.getElem?_eq_some_iff.1 hc).2
  simp [this]
set_option maxRecDepth 100000 in
set_option maxHeartbeats 8000000 in
theorem rbody54 (d : Sd) (hd : d.Nn) (q : Option Addr) (N qc : Nat) (hN : N = d.cs.length) (xs : List Nat) (p : Option Addr) (M cap : Nat) (w : World) (hM : M = xs.length) (hB : BytesAt w (.slice p M cap) xs) (hsz : M < 1000000000) (hC : CmdsAt w (.slice q N qc) d.cs) :
    Calls Try.prog 54 #[.slice p M cap, .agg (d.cells (.slice q N qc)).toArray] w fun e w' => OutB w w.heap.size (xs ++ d.body) e w' := by
  have hup : Hid (∀ (n : Nat) (p1 : Option Addr) (N1 c1 : Nat) (L : List Nat) (W1 : World), n < 18446744073709551616 → BytesAt W1 (.slice p1 N1 c1) L → N1 = L.length → N1 < 100000000000 → Calls Try.prog 46 #[.slice p1 N1 c1, .int .u64 (n : Int)] W1 fun e w' => NumOk W1 N1 (L ++ sev n) e w') := refNum
  have hF : Hid (∀ (c : C6) (L : List Nat) (p : Option Addr) (M cap : Nat) (W : World), c.Nn → M = L.length → BytesAt W (.slice p M cap) L → M < 10000000000 → Calls Try.prog 84 #[.slice p M cap, .agg #[.int .i64 c.k, .int .i64 c.u, .int .i64 c.t, .int .i64 c.h, .int .i64 c.x, .int .i64 c.y]] W fun e w' => OutB W W.heap.size (L ++ c.bytes) e w' ∧ c.bytes.length ≤ 60) := fun c L p M cap W hc hM hB hsz => by
    obtain ⟨k, u, t, h, x, y⟩ := c
    obtain ⟨k0, k1, u0, u1, t0, t1, h0, h1, x0, x1, y0, y1⟩ := hc
    simp only at k0 k1 u0 u1 t0 t1 h0 h1 x0 x1 y0 y1
    obtain ⟨k, rfl⟩ : ∃ n : Nat, k = (n : Int) := ⟨k.toNat, by omega⟩
    obtain ⟨u, rfl⟩ : ∃ n : Nat, u = (n : Int) := ⟨u.toNat, by omega⟩
    obtain ⟨t, rfl⟩ : ∃ n : Nat, t = (n : Int) := ⟨t.toNat, by omega⟩
    obtain ⟨h, rfl⟩ : ∃ n : Nat, h = (n : Int) := ⟨h.toNat, by omega⟩
    obtain ⟨x, rfl⟩ : ∃ n : Nat, x = (n : Int) := ⟨x.toNat, by omega⟩
    obtain ⟨y, rfl⟩ : ∃ n : Nat, y = (n : Int) := ⟨y.toNat, by omega⟩
    have hl := cmdB_len k u t h x y (by omega) (by omega) (by omega) (by omega) (by omega) (by omega)
    exact (rcommand84 k u t h x y (by omega) (by omega) (by omega) (by omega) (by omega) (by omega) L p M cap W hM hB hsz).mono fun _ _ h => ⟨h, by simpa [C6.bytes] using hl⟩
  obtain ⟨W, hW⟩ : ∃ W, W = w.alloc (.cells (d.cells (.slice q N qc)).toArray 47) := ⟨_, rfl⟩
  obtain ⟨B, hBB⟩ : ∃ B, B = w.heap.size := ⟨_, rfl⟩
  have HBW : Hid (Below w.heap.size w W) := by rw [hW]; exact (Below.refl _ _).alloc (Nat.le_refl _) _
  have HQ : Hid (Blk W B (d.cells (.slice q N qc)) 47) := by rw [hW, hBB]; exact Blk.new _ _ _
  have HCW := hid (hC.below HBW.out)
  have HBY := hid (hB.below HBW.out)
  have H0 : Hid (d.cs ≠ [] → ∃ b o, q = some ⟨b, o, none⟩ ∧ ∀ (i : Nat) (c : C6), d.cs[i]? = some c → ∀ (j : Nat) (u : Value), c.cells[j]? = some u → W.cell? ⟨b, o + i * 6 + j, none⟩ = some u) := by
    obtain ⟨p', c', he, h⟩ := HCW.out
    simp at he
    obtain ⟨rfl, _, rfl⟩ := he
    exact h
  have HK : Hid (∀ w', Below W.heap.size W w' → w'.cell? ⟨B, 0, none⟩ = some (.int .u64 (d.m : Int)) ∧ w'.cell? ⟨B, 1, none⟩ = some (.int .i64 d.pl) ∧ w'.cell? ⟨B, 2, none⟩ = some (.int .i64 d.tn) ∧ w'.cell? ⟨B, 3, none⟩ = some (.bool d.em) ∧ w'.cell? ⟨B, 4, none⟩ = some (.slice q N qc)) := fun w' hb => by
    have hB := HQ.out.below hb HQ.out.lt
    exact ⟨hB.cell 0, hB.cell 1, hB.cell 2, hB.cell 3, hB.cell 4⟩
  have HBO : Hid (d.body = sev d.m ++ (sev d.pl.toNat ++ (sev d.tn.toNat ++ (sev (if d.em then 1 else 0) ++ (sev N ++ d.cs.flatMap C6.bytes))))) := by rw [hN]; rfl
  obtain ⟨BO, hBO⟩ : ∃ BO, BO = d.body := ⟨_, rfl⟩
  rw [← hBO] at HBO ⊢
  have HM := hid hM
  have HN := hid hN
  obtain ⟨m, pl, tn, em, cs, tag⟩ := d
  obtain ⟨hm, p0, p1, t0, t1, hcl, hcn, htg⟩ := hd
  simp only at hm p0 p1 t0 t1 hcl hcn HK HBO H0 HN
  obtain ⟨pl, rfl⟩ : ∃ n : Nat, pl = (n : Int) := ⟨pl.toNat, by omega⟩
  obtain ⟨tn, rfl⟩ : ∃ n : Nat, tn = (n : Int) := ⟨tn.toNat, by omega⟩
  simp only [Int.toNat_natCast] at HBO
  have HCN := hid hcn
  have hNb : N < 1000 := by have := HN.out; omega
  obtain ⟨X, hX⟩ : ∃ X, X = (⟨m, (pl : Int), (tn : Int), em, cs, tag⟩ : Sd).cells (.slice q N qc) := ⟨_, rfl⟩
  rw [← hX] at hW ⊢
  unfold NumOk at hup
  clear hC hN HQ HCW hBO hX hB hM hcn hcl htg
  obtain ⟨a0, a1, a2, a3, a4⟩ := HK.out W (Below.refl _ _)
  go_enter Try.func54, Try.ntmps54
  go_upto_region 1 with fail
  rw [← hW, ← hBB]
  clear hW hBB
  go_wp2_with fail
  refine Calls.mono (hup.out m p M cap xs _ (by omega) HBY.out HM.out (by omega)) ?_
  rintro e v1 ⟨p1, N1, c1, hN1, rfl, hl1, ho1, hb1⟩
  have HB1 : Hid (Below W.heap.size W v1) := hb1
  have HO1 : Hid (OwnB v1 w.heap.size (.slice p1 N1 c1) (xs ++ sev m)) := ho1.mono (Nat.le_trans HBW.out.size (Nat.le_refl _))
  have HN1 := hid hN1
  clear ho1 hb1 hN1
  clear a0 a1 a2 a3 a4
  obtain ⟨a0, a1, a2, a3, a4⟩ := HK.out _ HB1.out
  go_wp2_with fail
  refine Calls.mono (hup.out pl p1 N1 c1 (xs ++ sev m) _ (by omega) HO1.out.bytes HN1.out (by omega)) ?_
  rintro e v2 ⟨p2, N2, c2, hN2, rfl, hl2, ho2, hb2⟩
  have HB2 : Hid (Below W.heap.size W v2) := HB1.out.trans (hb2.mono HB1.out.size)
  have HO2 : Hid (OwnB v2 w.heap.size (.slice p2 N2 c2) ((xs ++ sev m) ++ sev pl)) := ho2.mono (Nat.le_trans HBW.out.size HB1.out.size)
  have HN2 := hid hN2
  clear ho2 hb2 hN2
  clear a0 a1 a2 a3 a4
  obtain ⟨a0, a1, a2, a3, a4⟩ := HK.out _ HB2.out
  go_wp2_with fail
  refine Calls.mono (hup.out tn p2 N2 c2 ((xs ++ sev m) ++ sev pl) _ (by omega) HO2.out.bytes HN2.out (by omega)) ?_
  rintro e v3 ⟨p3, N3, c3, hN3, rfl, hl3, ho3, hb3⟩
  have HB3 : Hid (Below W.heap.size W v3) := HB2.out.trans (hb3.mono HB2.out.size)
  have HO3 : Hid (OwnB v3 w.heap.size (.slice p3 N3 c3) (((xs ++ sev m) ++ sev pl) ++ sev tn)) := ho3.mono (Nat.le_trans HBW.out.size HB2.out.size)
  have HN3 := hid hN3
  clear ho3 hb3 hN3
  clear a0 a1 a2 a3 a4
  obtain ⟨a0, a1, a2, a3, a4⟩ := HK.out _ HB3.out
  rcases em with _ | _
  · obtain ⟨ES, hES⟩ : ∃ ES, ES = sev 0 := ⟨_, rfl⟩
    have hc4 : Hid (Calls Try.prog 46 #[.slice p3 N3 c3, .int .u64 0] v3 fun e w' => ∃ p2 N2 c2, N2 = ((((xs ++ sev m) ++ sev pl) ++ sev tn) ++ sev 0).length ∧ e = .returned (.slice p2 N2 c2) ∧ N2 ≤ N3 + 10 ∧ OwnB w' v3.heap.size (.slice p2 N2 c2) ((((xs ++ sev m) ++ sev pl) ++ sev tn) ++ sev 0) ∧ Below v3.heap.size v3 w') := hup.out 0 p3 N3 c3 (((xs ++ sev m) ++ sev pl) ++ sev tn) v3 (by omega) HO3.out.bytes HN3.out (by omega)
    have HBO1 : Hid (BO = sev m ++ (sev pl ++ (sev tn ++ (ES ++ (sev N ++ cs.flatMap C6.bytes))))) := by rw [HBO.out, hES]; rfl
    rw [← hES] at hc4
    clear HBO hES
    go_wp2_with fail
    refine Calls.mono hc4.out ?_
    rintro e v4 ⟨p4, N4, c4, hN4, rfl, hl4, ho4, hb4⟩
    have HB4 : Hid (Below W.heap.size W v4) := HB3.out.trans (hb4.mono HB3.out.size)
    have HO4 : Hid (OwnB v4 w.heap.size (.slice p4 N4 c4) ((((xs ++ sev m) ++ sev pl) ++ sev tn) ++ ES)) := ho4.mono (Nat.le_trans HBW.out.size HB3.out.size)
    have HN4 := hid hN4
    clear ho4 hb4 hN4
    clear a0 a1 a2 a3 a4
    obtain ⟨a0, a1, a2, a3, a4⟩ := HK.out _ HB4.out
    go_wp2_with fail
    refine Calls.mono (hup.out N p4 N4 c4 ((((xs ++ sev m) ++ sev pl) ++ sev tn) ++ ES) _ (by omega) HO4.out.bytes HN4.out (by omega)) ?_
    rintro e v5 ⟨p5, N5, c5, hN5, rfl, hl5, ho5, hb5⟩
    have HB5 : Hid (Below W.heap.size W v5) := HB4.out.trans (hb5.mono HB4.out.size)
    have HO5 : Hid (OwnB v5 w.heap.size (.slice p5 N5 c5) (((((xs ++ sev m) ++ sev pl) ++ sev tn) ++ ES) ++ sev N)) := ho5.mono (Nat.le_trans HBW.out.size HB4.out.size)
    have HN5 := hid hN5
    clear ho5 hb5 hN5
    clear a0 a1 a2 a3 a4
    obtain ⟨a0, a1, a2, a3, a4⟩ := HK.out _ HB5.out
    have HBO2 : Hid (xs ++ BO = (((((xs ++ sev m) ++ sev pl) ++ sev tn) ++ ES) ++ sev N) ++ cs.flatMap C6.bytes) := by rw [HBO1.out]; exact hid (by simp only [List.append_assoc])
    have hN5 : N5 ≤ M + 50 := by omega
    obtain ⟨L5, hL5⟩ : ∃ L5, L5 = (((((xs ++ sev m) ++ sev pl) ++ sev tn) ++ ES) ++ sev N) := ⟨_, rfl⟩
    rw [← hL5] at HBO2 HO5 HN5
    clear hL5 HO1 HO2 HO3 HO4 HN1 HN2 HN3 HN4 hl1 hl2 hl3 hl4 hl5 HBO1 HB1 HB2 HB3 HB4
    go_wp2_with fail
    go_loopw [0, 6] (fun v iv wr => ∃ (p : Option Addr) (K c i : Nat), v = .slice p K c ∧ iv = .int .i64 (i : Nat) ∧ i ≤ N ∧ Hid (K = (L5 ++ (cs.take i).flatMap C6.bytes).length) ∧ K ≤ M + 50 + 60 * i ∧ Hid (OwnB wr w.heap.size (.slice p K c) (L5 ++ (cs.take i).flatMap C6.bytes)) ∧ Hid (Below W.heap.size W wr)) (fun _ iv _ => N - (intOf iv).toNat)
    case atStart => exact ⟨p5, N5, c5, 0, rfl, rfl, by omega, by simpa using HN5, by omega, by simpa using HO5, HB5⟩
    case round =>
      clear a0 a1 a2 a3 a4 HB5 HO5 HN5
      obtain ⟨pr, K, c, i, rfl, rfl, hi, HK2, hKb, HO, hbe⟩ := hrel
      obtain ⟨a0, a1, a2, a3, a4⟩ := HK.out wr hbe.out
      by_cases hlt : i < N
      · have hlb : i < cs.length := by have := HN.out; omega
        have hne : cs ≠ [] := by rintro rfl; simp at hlb
        obtain ⟨b, o, rfl, hc⟩ := H0.out hne
        obtain ⟨cc, hci⟩ : ∃ c, cs[i]? = some c := ⟨_, List.getElem?_eq_getElem hlb⟩
        have hcc : ∀ (j : Nat) (u : Value), cc.cells[j]? = some u → wr.cell? ⟨b, o + i * 6 + j, none⟩ = some u := fun j u hu => by
          have := hc i cc hci j u hu
          rw [hbe.out.cell (p := ⟨b, o + i * 6 + j, none⟩) (lt_of_cell this)]; exact this
        have g0 : wr.cell? ⟨b, o + i * 6, none⟩ = some (.int .i64 cc.k) := hcc 0 _ rfl
        have g1 := hcc 1 _ rfl
        have g2 := hcc 2 _ rfl
        have g3 := hcc 3 _ rfl
        have g4 := hcc 4 _ rfl
        have g5 := hcc 5 _ rfl
        have HTK := hid (flatC_take cs i hlb cc hci)
        have e2 : (i : Int) < (N : Int) := by omega
        have e3 : (0 : Int) ≤ (i : Int) := by omega
        have hcall := hid (hF.out cc _ pr K c wr (HCN.out cc (List.mem_of_getElem? hci)) HK2.out HO.out.bytes (by omega))
        obtain ⟨k, u, t, h, x, y⟩ := cc
        simp only at g0 g1 g2 g3 g4 g5 hcall
        unfold OutB at hcall
        obtain ⟨L6, hL6⟩ : ∃ L6, L6 = L5 ++ (cs.take i).flatMap C6.bytes := ⟨_, rfl⟩
        have HL7 : Hid (L5 ++ (cs.take (i + 1)).flatMap C6.bytes = L6 ++ (⟨k, u, t, h, x, y⟩ : C6).bytes) := by rw [HTK.out, hL6]; exact hid (by simp only [List.append_assoc])
        rw [← hL6] at hcall HK2
        have HKL := hid HK2.out
        have HKB := hid (show ∀ K2 L, L = (⟨k, u, t, h, x, y⟩ : C6).bytes → K2 = (L6 ++ L).length → L.length ≤ 60 → K2 ≤ M + 50 + 60 * (i + 1) from fun K2 L _ h2 h3 => by rw [h2, List.length_append, ← HKL.out]; omega)
        clear hcc hc hci hne HO HK2 HTK hL6
        go_wp2_with fail
        refine Calls.mono hcall.out ?_
        rintro e w2 ⟨⟨p6, K6, c6, hK6, rfl, ho6, hb6⟩, hbl⟩
        have HB6 := hid (hbe.out.trans (hb6.mono hbe.out.size))
        have HO6 := hid (ho6.mono (Nat.le_trans HBW.out.size hbe.out.size))
        have HK6 := hid hK6
        have hK6b := HKB.out K6 _ rfl hK6 hbl
        clear hcall hK6 hbl ho6 hb6 a0 a1 a2 a3 a4
        go_wp2
        go_roundw
        case rel => exact ⟨p6, K6, c6, i + 1, rfl, by go_num, by omega, by rw [HL7.out]; exact HK6, hK6b, by rw [HL7.out]; exact HO6, HB6⟩
        case measure => simp [intOf]; omega
      · obtain rfl : i = N := by omega
        have e2 : ((i : Int) < (i : Int)) = False := by simp
        have HT : Hid (cs.take i = cs) := by rw [HN.out]; exact hid List.take_length
        rw [HT.out] at HO HK2
        rw [← HBO2.out] at HO HK2
        go_wp2
        go_ret
        exact ⟨pr, K, c, HK2.out, rfl, HO.out, HBW.out.trans (hbe.out.mono HBW.out.size)⟩

  · obtain ⟨ES, hES⟩ : ∃ ES, ES = sev 1 := ⟨_, rfl⟩
    have hc4 : Hid (Calls Try.prog 46 #[.slice p3 N3 c3, .int .u64 1] v3 fun e w' => ∃ p2 N2 c2, N2 = ((((xs ++ sev m) ++ sev pl) ++ sev tn) ++ sev 1).length ∧ e = .returned (.slice p2 N2 c2) ∧ N2 ≤ N3 + 10 ∧ OwnB w' v3.heap.size (.slice p2 N2 c2) ((((xs ++ sev m) ++ sev pl) ++ sev tn) ++ sev 1) ∧ Below v3.heap.size v3 w') := hup.out 1 p3 N3 c3 (((xs ++ sev m) ++ sev pl) ++ sev tn) v3 (by omega) HO3.out.bytes HN3.out (by omega)
    have HBO1 : Hid (BO = sev m ++ (sev pl ++ (sev tn ++ (ES ++ (sev N ++ cs.flatMap C6.bytes))))) := by rw [HBO.out, hES]; rfl
    rw [← hES] at hc4
    clear HBO hES
    go_wp2_with fail
    refine Calls.mono hc4.out ?_
    rintro e v4 ⟨p4, N4, c4, hN4, rfl, hl4, ho4, hb4⟩
    have HB4 : Hid (Below W.heap.size W v4) := HB3.out.trans (hb4.mono HB3.out.size)
    have HO4 : Hid (OwnB v4 w.heap.size (.slice p4 N4 c4) ((((xs ++ sev m) ++ sev pl) ++ sev tn) ++ ES)) := ho4.mono (Nat.le_trans HBW.out.size HB3.out.size)
    have HN4 := hid hN4
    clear ho4 hb4 hN4
    clear a0 a1 a2 a3 a4
    obtain ⟨a0, a1, a2, a3, a4⟩ := HK.out _ HB4.out
    go_wp2_with fail
    refine Calls.mono (hup.out N p4 N4 c4 ((((xs ++ sev m) ++ sev pl) ++ sev tn) ++ ES) _ (by omega) HO4.out.bytes HN4.out (by omega)) ?_
    rintro e v5 ⟨p5, N5, c5, hN5, rfl, hl5, ho5, hb5⟩
    have HB5 : Hid (Below W.heap.size W v5) := HB4.out.trans (hb5.mono HB4.out.size)
    have HO5 : Hid (OwnB v5 w.heap.size (.slice p5 N5 c5) (((((xs ++ sev m) ++ sev pl) ++ sev tn) ++ ES) ++ sev N)) := ho5.mono (Nat.le_trans HBW.out.size HB4.out.size)
    have HN5 := hid hN5
    clear ho5 hb5 hN5
    clear a0 a1 a2 a3 a4
    obtain ⟨a0, a1, a2, a3, a4⟩ := HK.out _ HB5.out
    have HBO2 : Hid (xs ++ BO = (((((xs ++ sev m) ++ sev pl) ++ sev tn) ++ ES) ++ sev N) ++ cs.flatMap C6.bytes) := by rw [HBO1.out]; exact hid (by simp only [List.append_assoc])
    have hN5 : N5 ≤ M + 50 := by omega
    obtain ⟨L5, hL5⟩ : ∃ L5, L5 = (((((xs ++ sev m) ++ sev pl) ++ sev tn) ++ ES) ++ sev N) := ⟨_, rfl⟩
    rw [← hL5] at HBO2 HO5 HN5
    clear hL5 HO1 HO2 HO3 HO4 HN1 HN2 HN3 HN4 hl1 hl2 hl3 hl4 hl5 HBO1 HB1 HB2 HB3 HB4
    go_wp2_with fail
    go_loopw [0, 6] (fun v iv wr => ∃ (p : Option Addr) (K c i : Nat), v = .slice p K c ∧ iv = .int .i64 (i : Nat) ∧ i ≤ N ∧ Hid (K = (L5 ++ (cs.take i).flatMap C6.bytes).length) ∧ K ≤ M + 50 + 60 * i ∧ Hid (OwnB wr w.heap.size (.slice p K c) (L5 ++ (cs.take i).flatMap C6.bytes)) ∧ Hid (Below W.heap.size W wr)) (fun _ iv _ => N - (intOf iv).toNat)
    case atStart => exact ⟨p5, N5, c5, 0, rfl, rfl, by omega, by simpa using HN5, by omega, by simpa using HO5, HB5⟩
    case round =>
      clear a0 a1 a2 a3 a4 HB5 HO5 HN5
      obtain ⟨pr, K, c, i, rfl, rfl, hi, HK2, hKb, HO, hbe⟩ := hrel
      obtain ⟨a0, a1, a2, a3, a4⟩ := HK.out wr hbe.out
      by_cases hlt : i < N
      · have hlb : i < cs.length := by have := HN.out; omega
        have hne : cs ≠ [] := by rintro rfl; simp at hlb
        obtain ⟨b, o, rfl, hc⟩ := H0.out hne
        obtain ⟨cc, hci⟩ : ∃ c, cs[i]? = some c := ⟨_, List.getElem?_eq_getElem hlb⟩
        have hcc : ∀ (j : Nat) (u : Value), cc.cells[j]? = some u → wr.cell? ⟨b, o + i * 6 + j, none⟩ = some u := fun j u hu => by
          have := hc i cc hci j u hu
          rw [hbe.out.cell (p := ⟨b, o + i * 6 + j, none⟩) (lt_of_cell this)]; exact this
        have g0 : wr.cell? ⟨b, o + i * 6, none⟩ = some (.int .i64 cc.k) := hcc 0 _ rfl
        have g1 := hcc 1 _ rfl
        have g2 := hcc 2 _ rfl
        have g3 := hcc 3 _ rfl
        have g4 := hcc 4 _ rfl
        have g5 := hcc 5 _ rfl
        have HTK := hid (flatC_take cs i hlb cc hci)
        have e2 : (i : Int) < (N : Int) := by omega
        have e3 : (0 : Int) ≤ (i : Int) := by omega
        have hcall := hid (hF.out cc _ pr K c wr (HCN.out cc (List.mem_of_getElem? hci)) HK2.out HO.out.bytes (by omega))
        obtain ⟨k, u, t, h, x, y⟩ := cc
        simp only at g0 g1 g2 g3 g4 g5 hcall
        unfold OutB at hcall
        obtain ⟨L6, hL6⟩ : ∃ L6, L6 = L5 ++ (cs.take i).flatMap C6.bytes := ⟨_, rfl⟩
        have HL7 : Hid (L5 ++ (cs.take (i + 1)).flatMap C6.bytes = L6 ++ (⟨k, u, t, h, x, y⟩ : C6).bytes) := by rw [HTK.out, hL6]; exact hid (by simp only [List.append_assoc])
        rw [← hL6] at hcall HK2
        have HKL := hid HK2.out
        have HKB := hid (show ∀ K2 L, L = (⟨k, u, t, h, x, y⟩ : C6).bytes → K2 = (L6 ++ L).length → L.length ≤ 60 → K2 ≤ M + 50 + 60 * (i + 1) from fun K2 L _ h2 h3 => by rw [h2, List.length_append, ← HKL.out]; omega)
        clear hcc hc hci hne HO HK2 HTK hL6
        go_wp2_with fail
        refine Calls.mono hcall.out ?_
        rintro e w2 ⟨⟨p6, K6, c6, hK6, rfl, ho6, hb6⟩, hbl⟩
        have HB6 := hid (hbe.out.trans (hb6.mono hbe.out.size))
        have HO6 := hid (ho6.mono (Nat.le_trans HBW.out.size hbe.out.size))
        have HK6 := hid hK6
        have hK6b := HKB.out K6 _ rfl hK6 hbl
        clear hcall hK6 hbl ho6 hb6 a0 a1 a2 a3 a4
        go_wp2
        go_roundw
        case rel => exact ⟨p6, K6, c6, i + 1, rfl, by go_num, by omega, by rw [HL7.out]; exact HK6, hK6b, by rw [HL7.out]; exact HO6, HB6⟩
        case measure => simp [intOf]; omega
      · obtain rfl : i = N := by omega
        have e2 : ((i : Int) < (i : Int)) = False := by simp
        have HT : Hid (cs.take i = cs) := by rw [HN.out]; exact hid List.take_length
        rw [HT.out] at HO HK2
        rw [← HBO2.out] at HO HK2
        go_wp2
        go_ret
        exact ⟨pr, K, c, HK2.out, rfl, HO.out, HBW.out.trans (hbe.out.mono HBW.out.size)⟩

end Go.Proofs.Ytpiflgbcbhnmpaa
/- Body and Sealed of the reference, the program's Body. -/
namespace Go.Proofs.Ytpiflgbcbhnmpaa
open Go.RowKit
def bodL (d : Sd) : List Nat := if d.ok then d.body else []
set_option maxRecDepth 100000 in
set_option maxHeartbeats 4000000 in
theorem body22 (d : Sd) (hm : d.m < 18446744073709551616) (ht : d.tag.length = 32) (q : Option Addr) (N qc : Nat) (hN : N = d.cs.length) (hNb : N < 1000000000) (w : World) (hC : CmdsAt w (.slice q N qc) d.cs) (hq : 0 < N → ∀ a, q = some a → a.block < w.heap.size) :
    Calls Try.prog 22 #[.agg (d.cells (.slice q N qc)).toArray] w fun e w' => OutE w w.heap.size (bodL d) (sldE d) e w' := by
  have hal : Below w.heap.size w (w.alloc (.cells (d.cells (.slice q N qc)).toArray 47)) := (Below.refl _ _).alloc (Nat.le_refl _) _
  have hbx := Blk.new w (d.cells (.slice q N qc)) 47
  have h51 := hid (sealedFormed51 d hm q N qc (w.alloc (.cells (d.cells (.slice q N qc)).toArray 47)) hN (hC.below hal) hNb)
  have h52 := hid (show d.ok = true → ∀ W, Below w.heap.size w W → Calls Try.prog 55 #[.slice none 0 0, .agg (d.cells (.slice q N qc)).toArray] W fun e w' => OutB W w.heap.size d.body e w' ∧ d.body.length ≤ 61000 from fun hok W hW => by
    have h9 := appendBody55 d (Sd.nn hok ht) q N qc hN [] w.heap.size none 0 0 W rfl (OwnB.nil _ _) hW.size (by omega) (hC.below hW) (fun hn a ha => ⟨by simp [Value.ownBlock], Nat.lt_of_lt_of_le (hq hn a ha) hW.size⟩)
    rw [List.nil_append] at h9
    exact h9.mono fun _ _ ⟨p2, N2, c2, a1, a2, a3, a4⟩ => ⟨⟨p2, N2, c2, a1, a2, a3, a4.below (OwnB.nil W w.heap.size) hW.size⟩, body_len (Sd.nn hok ht)⟩)
  have HL := hid (show ∀ b, b = d.ok → bodL d = (if b then d.body else []) ∧ sldE d = (if b then 0 else 4) from fun b hb => by subst hb; exact ⟨rfl, rfl⟩)
  obtain ⟨E, hE⟩ : ∃ E, E = d.cells (.slice q N qc) := ⟨_, rfl⟩
  have hEl : E.length = 37 := by rw [hE]; simp [Sd.cells, ht]
  have hi47 : (Try.prog.info? 47).map (·.size) = some E.length := by rw [hEl]; exact size47
  rw [← hE] at h51 h52 hbx hal ⊢
  obtain ⟨ok, hok⟩ : ∃ ok, ok = d.ok := ⟨_, rfl⟩
  rw [← hok] at h51 h52
  obtain ⟨l1, l2⟩ := HL.out ok hok
  rw [l1, l2]
  have HAL := hid hal
  have HBX := hid hbx
  have hr := hbx.range
  generalize d.body = BB at *
  clear hE hC hq hN hal hbx HL l1 l2 hok
  rcases ok with _ | _
  · go_enter Try.func22, Try.ntmps22
    go_wp2_with (first
      | ((with_reducible refine wpL_load 47 w.heap.size 0 E _ ?_ hr Try.underlying47 ?_ hi47 ?_); (rfl); (rfl); (simp only [Act.put, List.setIfInBounds_toArray, List.set_cons_zero, List.set_cons_succ]))
      | (go_at_call 51; refine Calls.mono h51.out ?_; rintro e w2 ⟨rfl, hb2⟩))
    go_ret2
    exact ⟨none, 0, 0, rfl, rfl, OwnB.nil _ _, HAL.out.trans (hb2.mono HAL.out.size)⟩
  · go_enter Try.func22, Try.ntmps22
    go_upto_region 1 with (fail)
    generalize w.alloc (.cells E.toArray 47) = W at *
    go_wp2_with (first
      | ((with_reducible refine wpL_load 47 w.heap.size 0 E _ ?_ hr Try.underlying47 ?_ hi47 ?_); (rfl); (rfl); (simp only [Act.put, List.setIfInBounds_toArray, List.set_cons_zero, List.set_cons_succ])))
    refine Calls.mono h51.out ?_
    rintro e w2 ⟨rfl, hb2⟩
    have hr2 := (HBX.out.below hb2 HBX.out.lt).range
    have hbe2 := HAL.out.trans (hb2.mono HAL.out.size)
    have h5 := hid (h52.out (by first | exact rfl | trivial) w2 hbe2)
    have HBE2 := hid hbe2
    clear hr h52 h51 hb2 hbe2
    go_wp2_with (first
      | ((with_reducible refine wpL_load 47 w.heap.size 0 E _ ?_ hr2 Try.underlying47 ?_ hi47 ?_); (rfl); (rfl); (simp only [Act.put, List.setIfInBounds_toArray, List.set_cons_zero, List.set_cons_succ])))
    refine Calls.mono h5.out ?_
    rintro e w3 ⟨⟨p3, N3, c3, hN3, rfl, ho3, hg3⟩, hl3⟩
    have HN3 := hid hN3
    have HB3 := hid (HBE2.out.trans hg3)
    clear hN3 hg3
    go_wp2_with fail
    go_ret2
    exact ⟨p3, N3, c3, HN3.out, rfl, ho3, HB3.out⟩
set_option maxRecDepth 100000 in
set_option maxHeartbeats 4000000 in
theorem rbody23 (d : Sd) (hm : d.m < 18446744073709551616) (ht : d.tag.length = 32) (q : Option Addr) (N qc : Nat) (hN : N = d.cs.length) (hNb : N < 1000000000) (w : World) (hC : CmdsAt w (.slice q N qc) d.cs) :
    Calls Try.prog 23 #[.agg (d.cells (.slice q N qc)).toArray] w fun e w' => OutE w w.heap.size (bodL d) (sldE d) e w' := by
  have hal : Below w.heap.size w (w.alloc (.cells (d.cells (.slice q N qc)).toArray 47)) := (Below.refl _ _).alloc (Nat.le_refl _) _
  have hbx := Blk.new w (d.cells (.slice q N qc)) 47
  have h51 := hid (rsealed53 d hm q N qc (w.alloc (.cells (d.cells (.slice q N qc)).toArray 47)) hN (hC.below hal) hNb)
  have h52 := hid (show d.ok = true → ∀ W, Below w.heap.size w W → Calls Try.prog 54 #[.slice none 0 0, .agg (d.cells (.slice q N qc)).toArray] W fun e w' => OutB W w.heap.size d.body e w' ∧ d.body.length ≤ 61000 from fun hok W hW => by
    have h9 := rbody54 d (Sd.nn hok ht) q N qc hN [] none 0 0 W rfl (bytes_nil W) (by omega) (hC.below hW)
    rw [List.nil_append] at h9
    exact h9.mono fun _ _ ⟨p2, N2, c2, a1, a2, a3, a4⟩ => ⟨⟨p2, N2, c2, a1, a2, a3.mono hW.size, a4.mono hW.size⟩, body_len (Sd.nn hok ht)⟩)
  have HL := hid (show ∀ b, b = d.ok → bodL d = (if b then d.body else []) ∧ sldE d = (if b then 0 else 4) from fun b hb => by subst hb; exact ⟨rfl, rfl⟩)
  obtain ⟨E, hE⟩ : ∃ E, E = d.cells (.slice q N qc) := ⟨_, rfl⟩
  have hEl : E.length = 37 := by rw [hE]; simp [Sd.cells, ht]
  have hi47 : (Try.prog.info? 47).map (·.size) = some E.length := by rw [hEl]; exact size47
  rw [← hE] at h51 h52 hbx hal ⊢
  obtain ⟨ok, hok⟩ : ∃ ok, ok = d.ok := ⟨_, rfl⟩
  rw [← hok] at h51 h52
  obtain ⟨l1, l2⟩ := HL.out ok hok
  rw [l1, l2]
  have HAL := hid hal
  have HBX := hid hbx
  have hr := hbx.range
  generalize d.body = BB at *
  clear hE hC hN hal hbx HL l1 l2 hok
  rcases ok with _ | _
  · go_enter Try.func23, Try.ntmps23
    go_wp2_with (first
      | ((with_reducible refine wpL_load 47 w.heap.size 0 E _ ?_ hr Try.underlying47 ?_ hi47 ?_); (rfl); (rfl); (simp only [Act.put, List.setIfInBounds_toArray, List.set_cons_zero, List.set_cons_succ]))
      | (go_at_call 53; refine Calls.mono h51.out ?_; rintro e w2 ⟨rfl, hb2⟩))
    go_ret2
    exact ⟨none, 0, 0, rfl, rfl, OwnB.nil _ _, HAL.out.trans (hb2.mono HAL.out.size)⟩
  · go_enter Try.func23, Try.ntmps23
    go_upto_region 1 with (fail)
    generalize w.alloc (.cells E.toArray 47) = W at *
    go_wp2_with (first
      | ((with_reducible refine wpL_load 47 w.heap.size 0 E _ ?_ hr Try.underlying47 ?_ hi47 ?_); (rfl); (rfl); (simp only [Act.put, List.setIfInBounds_toArray, List.set_cons_zero, List.set_cons_succ])))
    refine Calls.mono h51.out ?_
    rintro e w2 ⟨rfl, hb2⟩
    have hr2 := (HBX.out.below hb2 HBX.out.lt).range
    have hbe2 := HAL.out.trans (hb2.mono HAL.out.size)
    have h5 := hid (h52.out (by first | exact rfl | trivial) w2 hbe2)
    have HBE2 := hid hbe2
    clear hr h52 h51 hb2 hbe2
    go_wp2_with (first
      | ((with_reducible refine wpL_load 47 w.heap.size 0 E _ ?_ hr2 Try.underlying47 ?_ hi47 ?_); (rfl); (rfl); (simp only [Act.put, List.setIfInBounds_toArray, List.set_cons_zero, List.set_cons_succ])))
    refine Calls.mono h5.out ?_
    rintro e w3 ⟨⟨p3, N3, c3, hN3, rfl, ho3, hg3⟩, hl3⟩
    have HN3 := hid hN3
    have HB3 := hid (HBE2.out.trans hg3)
    clear hN3 hg3
    go_wp2_with fail
    go_ret2
    exact ⟨p3, N3, c3, HN3.out, rfl, ho3, HB3.out⟩
set_option maxRecDepth 100000 in
set_option maxHeartbeats 4000000 in
theorem rsealed21 (d : Sd) (hm : d.m < 18446744073709551616) (ht : d.tag.length = 32) (q : Option Addr) (N qc : Nat) (hN : N = d.cs.length) (hNb : N < 1000000000) (w : World) (hC : CmdsAt w (.slice q N qc) d.cs) :
    Calls Try.prog 21 #[.agg (d.cells (.slice q N qc)).toArray] w fun e w' => OutE w w.heap.size (sldL d) (sldE d) e w' := by
  have hal : Below w.heap.size w (w.alloc (.cells (d.cells (.slice q N qc)).toArray 47)) := (Below.refl _ _).alloc (Nat.le_refl _) _
  have hbx := Blk.new w (d.cells (.slice q N qc)) 47
  have h51 := hid (rsealed53 d hm q N qc (w.alloc (.cells (d.cells (.slice q N qc)).toArray 47)) hN (hC.below hal) hNb)
  have h52 := hid (show d.ok = true → ∀ W, Below w.heap.size w W → Calls Try.prog 54 #[.slice none 0 0, .agg (d.cells (.slice q N qc)).toArray] W fun e w' => (∃ p N cap, N = d.body.length ∧ e = .returned (.slice p N cap) ∧ OwnB w' w.heap.size (.slice p N cap) d.body ∧ Below W.heap.size W w') ∧ d.body.length ≤ 61000 from fun hok W hW => by
    have h9 := rbody54 d (Sd.nn hok ht) q N qc hN [] none 0 0 W rfl (bytes_nil W) (by omega) (hC.below hW)
    rw [List.nil_append] at h9
    exact h9.mono fun _ _ ⟨p2, N2, c2, a1, a2, a3, a4⟩ => ⟨⟨p2, N2, c2, a1, a2, a3.mono hW.size, a4⟩, body_len (Sd.nn hok ht)⟩)
  have HL := hid (show ∀ b, b = d.ok → sldL d = (if b then d.body ++ d.tag else []) ∧ sldE d = (if b then 0 else 4) from fun b hb => by subst hb; exact ⟨rfl, rfl⟩)
  obtain ⟨E, hE⟩ : ∃ E, E = d.cells (.slice q N qc) := ⟨_, rfl⟩
  have hEl : E.length = 37 := by rw [hE]; simp [Sd.cells, ht]
  have hi47 : (Try.prog.info? 47).map (·.size) = some E.length := by rw [hEl]; exact size47
  have HT := hid (show ∀ W, Blk W w.heap.size E 47 → BytesAt W (.slice (some ⟨w.heap.size, 5, none⟩) 32 32) d.tag from fun W h => by rw [hE] at h; exact tag_bytes h ht)
  rw [← hE] at h51 h52 hbx hal ⊢
  obtain ⟨ok, hok⟩ : ∃ ok, ok = d.ok := ⟨_, rfl⟩
  rw [← hok] at h51 h52
  obtain ⟨l1, l2⟩ := HL.out ok hok
  rw [l1, l2]
  have HAL := hid hal
  have HBX := hid hbx
  have hr := hbx.range
  have htl := hid ht
  generalize d.body = BB at *
  generalize d.tag = TG at *
  clear hE hC hN hal hbx HL l1 l2 hok ht
  rcases ok with _ | _
  · go_enter Try.func21, Try.ntmps21
    go_wp2_with (first
      | ((with_reducible refine wpL_load 47 w.heap.size 0 E _ ?_ hr Try.underlying47 ?_ hi47 ?_); (rfl); (rfl); (simp only [Act.put, List.setIfInBounds_toArray, List.set_cons_zero, List.set_cons_succ]))
      | (go_at_call 53; refine Calls.mono h51.out ?_; rintro e w2 ⟨rfl, hb2⟩))
    go_ret2
    exact ⟨none, 0, 0, rfl, rfl, OwnB.nil _ _, HAL.out.trans (hb2.mono HAL.out.size)⟩
  · go_enter Try.func21, Try.ntmps21
    go_upto_region 1 with (fail)
    generalize w.alloc (.cells E.toArray 47) = W at *
    go_wp2_with (first
      | ((with_reducible refine wpL_load 47 w.heap.size 0 E _ ?_ hr Try.underlying47 ?_ hi47 ?_); (rfl); (rfl); (simp only [Act.put, List.setIfInBounds_toArray, List.set_cons_zero, List.set_cons_succ])))
    refine Calls.mono h51.out ?_
    rintro e w2 ⟨rfl, hb2⟩
    have hbx2 := HBX.out.below hb2 HBX.out.lt
    have hr2 : w2.drew.rangeAt w.heap.size 0 E := hbx2.drew.range
    have hbe2 := HAL.out.trans (hb2.mono HAL.out.size)
    have h5 := hid (h52.out (by first | exact rfl | trivial) w2.drew hbe2.drew)
    have HBE2 := hid hbe2
    have HBX2 := hid hbx2
    clear hr h52 h51 hb2 hbe2 hbx2
    go_upto_region 3 with (fail)
    refine wp_region_noPanic ?_
    refine wp_region_any (by kernel_rfl) ?_
    change wpAny _ _ _ _ _ _ _ (World.drew _)
    refine take_op (i := 2) (.pointer (some ⟨w.heap.size, 5, none⟩)) (by exact rfl) (by kernel_rfl) (by kernel_rfl) (by kernel_rfl) (fun _ _ _ h => h) (fun w => by go_simp) ?_
    simp only [Act.put, List.setIfInBounds_toArray, List.set_cons_zero, List.set_cons_succ]
    refine take_op (i := 3) (.slice (some ⟨w.heap.size, 5, none⟩) 32 32) (by exact rfl) (by kernel_rfl) (by kernel_rfl) (by kernel_rfl) (fun _ _ _ h => h) (fun w => by go_simp) ?_
    simp only [Act.put, List.setIfInBounds_toArray, List.set_cons_zero, List.set_cons_succ]
    refine wpAny_ready (rs := [0]) (by kernel_rfl) (by simp) ?_
    refine ready_load 47 w.heap.size 0 E _ (by exact rfl) (by go_simp) hr2 Try.underlying47 rfl hi47 ?_ AllReady.nil
    simp only [Act.put, List.setIfInBounds_toArray, List.set_cons_zero, List.set_cons_succ]
    refine wpAny_ready (rs := [1]) (by kernel_rfl) (by simp) ?_
    refine ready_call 54 _ _ #[.slice none 0 0, .agg E.toArray] (by exact rfl) (by go_simp) (by go_simp) ?_ AllReady.nil
    refine Calls.mono h5.out ?_
    rintro e w3 ⟨⟨p3, N3, c3, hN3, rfl, ho3, hg3⟩, hcl⟩
    refine ⟨_, rfl, ?_⟩
    simp only [Act.put, List.setIfInBounds_toArray, List.set_cons_zero, List.set_cons_succ]
    have hbx3 := HBX2.out.drew.below hg3 HBX2.out.lt
    have hT3 := HT.out w3 hbx3
    have hlo3 : w.heap.size ≤ w3.heap.size := Nat.le_trans HBE2.out.size hg3.size
    have hNN : BB.length + TG.length = N3 + 32 := by rw [← hN3, htl.out]
    have hb3 : N3 + 32 ≤ 1099511627776 := by omega
    have hne : TG ≠ [] := by intro h; have := htl.out; rw [h] at this; simp at this
    have HB3 := hid (HBE2.out.drew.trans (hg3.mono HBE2.out.size))
    have HN3 := hid hN3
    clear hN3 hg3 hcl
    refine wpAny_ready (rs := [4]) (by kernel_rfl) (by simp) ?_
    refine ready_append w.heap.size (.slice p3 N3 c3) (.slice (some ⟨w.heap.size, 5, none⟩) 32 32) BB TG (N3 + 32) hne hNN (by exact rfl) (by go_simp) (by go_simp) ho3 hT3 hb3 hlo3 ?_ AllReady.nil
    intro p4 c4 w4 ho4 hg4
    simp only [Act.put, List.setIfInBounds_toArray, List.set_cons_zero, List.set_cons_succ]
    refine take_op (i := 5) (.slice p4 (N3 + 32) c4) (by exact rfl) (by kernel_rfl) (by kernel_rfl) (by kernel_rfl) (fun _ _ _ h => h) (fun w => by go_simp) ?_
    simp only [Act.put, List.setIfInBounds_toArray, List.set_cons_zero, List.set_cons_succ]
    refine take_op (i := 6) (.int .i64 0) (by exact rfl) (by kernel_rfl) (by kernel_rfl) (by kernel_rfl) (fun _ _ _ h => h) (fun w => by go_simp) ?_
    simp only [Act.put, List.setIfInBounds_toArray, List.set_cons_zero, List.set_cons_succ]
    refine wpAny_done (by kernel_rfl) (NoPanic.normal ?_) _
    have HB4 := hid (HB3.out.trans (hg4.below ho3 hlo3))
    have HO4 := hid ho4
    clear ho3 hT3 ho4 hg4 HB3
    go_wp2_with fail
    go_ret2
    exact ⟨p4, N3 + 32, c4, by rw [← hNN]; simp, rfl, HO4.out, HB4.out⟩
end Go.Proofs.Ytpiflgbcbhnmpaa
