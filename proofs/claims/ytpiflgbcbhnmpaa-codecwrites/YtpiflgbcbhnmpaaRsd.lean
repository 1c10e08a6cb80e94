/- The reference: are sealed commands formed; their body. -/
import Derived.Test.YtpiflgbcbhnmpaaRcmd
namespace Go.Proofs.Ytpiflgbcbhnmpaa
open Go.RowKit
set_option maxRecDepth 100000 in
set_option maxHeartbeats 8000000 in
theorem rsealed53 (d : Sd) (hm : d.m < 18446744073709551616) (p : Option Addr) (N cap : Nat) (w : World) (hN : N = d.cs.length) (h : CmdsAt w (.slice p N cap) d.cs) (hsz : N < 1000000000) :
    Calls Try.prog 53 #[.agg (d.cells (.slice p N cap)).toArray] w fun e w' => e = .returned (.bool d.ok) ∧ Below w.heap.size w w' := by
  have hw : Hid (∀ a b q W, rng a (b - 1) = q → Calls Try.prog 59 #[.int .i64 a, .int .i64 b] W fun e w' => e = .returned (.bool q) ∧ w' = W) := fun a b q W h => by rw [← h]; exact within59 a b W
  have hF : Hid (∀ (c : C6) W, Calls Try.prog 25 #[.agg #[.int .i64 c.k, .int .i64 c.u, .int .i64 c.t, .int .i64 c.h, .int .i64 c.x, .int .i64 c.y]] W fun e w' => e = .returned (.bool c.ok) ∧ Below W.heap.size W w') := fun c W => formed25 _ _ _ _ _ _ W
  obtain ⟨W, hW⟩ : ∃ W, W = w.alloc (.cells (d.cells (.slice p N cap)).toArray 47) := ⟨_, rfl⟩
  obtain ⟨B, hBB⟩ : ∃ B, B = w.heap.size := ⟨_, rfl⟩
  have HBW : Hid (Below w.heap.size w W) := by rw [hW]; exact (Below.refl _ _).alloc (Nat.le_refl _) _
  have HQ : Hid (Blk W B (d.cells (.slice p N cap)) 47) := by rw [hW, hBB]; exact Blk.new _ _ _
  have HCW := hid (h.below HBW.out)
  have H0 : Hid (d.cs ≠ [] → ∃ b o, p = some ⟨b, o, none⟩ ∧ ∀ (i : Nat) (c : C6), d.cs[i]? = some c → ∀ (j : Nat) (u : Value), c.cells[j]? = some u → W.cell? ⟨b, o + i * 6 + j, none⟩ = some u) := by
    obtain ⟨p', c', he, h⟩ := HCW.out
    simp at he
    obtain ⟨rfl, _, rfl⟩ := he
    exact h
  have HK : Hid (∀ w', Below W.heap.size W w' → w'.cell? ⟨B, 0, none⟩ = some (.int .u64 (d.m : Int)) ∧ w'.cell? ⟨B, 1, none⟩ = some (.int .i64 d.pl) ∧ w'.cell? ⟨B, 2, none⟩ = some (.int .i64 d.tn) ∧ w'.cell? ⟨B, 3, none⟩ = some (.bool d.em) ∧ w'.cell? ⟨B, 4, none⟩ = some (.slice p N cap)) := fun w' hb => by
    have hB := HQ.out.below hb HQ.out.lt
    exact ⟨hB.cell 0, hB.cell 1, hB.cell 2, hB.cell 3, hB.cell 4⟩
  have HOK : Hid (d.ok = (decide (d.m ≤ 9223372036854775807) && rng d.pl 3 && rng d.tn 59 && !(d.em && decide (0 < N)) && (decide (N ≤ 5) && d.cs.all C6.ok))) := by
    rw [hN]; rfl
  have HN := hid hN
  obtain ⟨R, hR⟩ : ∃ R, R = d.ok := ⟨_, rfl⟩
  rw [← hR] at HOK ⊢
  obtain ⟨m, pl, tn, em, cs, tag⟩ := d
  simp only at hm HK HOK H0 HN
  obtain ⟨X, hX⟩ : ∃ X, X = (⟨m, pl, tn, em, cs, tag⟩ : Sd).cells (.slice p N cap) := ⟨_, rfl⟩
  rw [← hX] at hW ⊢
  clear h hN HQ HCW hR hX
  obtain ⟨a0, a1, a2, a3, a4⟩ := HK.out W (Below.refl _ _)
  rcases r1 : rng pl (4 - 1) with _ | _
  · have hF' : R = false := by rw [HOK.out, show rng pl 3 = false from r1]; simp
    subst hF'
    go_enter Try.func53, Try.ntmps53
    go_upto_region 1 with fail
    rw [← hW, ← hBB]
    clear hW hBB
    go_wp2_with (go_at_call 59; with_reducible refine Calls.mono (hw.out _ _ false _ r1) ?_; rintro e w3 ⟨rfl, hh⟩; replace hh := hh.symm; subst hh)
    go_ret
    exact ⟨rfl, HBW.out⟩
  rcases r2 : rng tn (60 - 1) with _ | _
  · have hF' : R = false := by rw [HOK.out, show rng tn 59 = false from r2]; simp
    subst hF'
    go_enter Try.func53, Try.ntmps53
    go_upto_region 1 with fail
    rw [← hW, ← hBB]
    clear hW hBB
    go_wp2_with (first
      | (go_at_call 59; with_reducible refine Calls.mono (hw.out _ _ true _ r1) ?_; rintro e w3 ⟨rfl, hh⟩; replace hh := hh.symm; subst hh)
      | (go_at_call 59; with_reducible refine Calls.mono (hw.out _ _ false _ r2) ?_; rintro e w3 ⟨rfl, hh⟩; replace hh := hh.symm; subst hh))
    go_ret
    exact ⟨rfl, HBW.out⟩
  by_cases g3 : m ≤ 9223372036854775807
  case neg =>
    have hF' : R = false := by rw [HOK.out, decide_eq_false g3]; simp
    subst hF'
    have b1 : (9223372036854775807 : Int) < (m : Int) := by omega
    go_enter Try.func53, Try.ntmps53
    go_upto_region 1 with fail
    rw [← hW, ← hBB]
    clear hW hBB
    go_wp2_with (first
      | (go_at_call 59; with_reducible refine Calls.mono (hw.out _ _ true _ r1) ?_; rintro e w3 ⟨rfl, hh⟩; replace hh := hh.symm; subst hh)
      | (go_at_call 59; with_reducible refine Calls.mono (hw.out _ _ true _ r2) ?_; rintro e w3 ⟨rfl, hh⟩; replace hh := hh.symm; subst hh))
    go_ret
    exact ⟨rfl, HBW.out⟩
  have b1 : ((9223372036854775807 : Int) < (m : Int)) = False := by simp; omega
  by_cases g4 : N ≤ 5
  case neg =>
    have hF' : R = false := by rw [HOK.out, decide_eq_false g4]; simp
    subst hF'
    have b2 : (5 : Int) < (N : Int) := by omega
    go_enter Try.func53, Try.ntmps53
    go_upto_region 1 with fail
    rw [← hW, ← hBB]
    clear hW hBB
    go_wp2_with (first
      | (go_at_call 59; with_reducible refine Calls.mono (hw.out _ _ true _ r1) ?_; rintro e w3 ⟨rfl, hh⟩; replace hh := hh.symm; subst hh)
      | (go_at_call 59; with_reducible refine Calls.mono (hw.out _ _ true _ r2) ?_; rintro e w3 ⟨rfl, hh⟩; replace hh := hh.symm; subst hh))
    go_ret
    exact ⟨rfl, HBW.out⟩
  have b2 : ((5 : Int) < (N : Int)) = False := by simp; omega
  have b5 : (N : Int) ≤ 5 := by omega
  by_cases g5 : em = true ∧ 0 < N
  · obtain ⟨rfl, g6⟩ := g5
    have hF' : R = false := by rw [HOK.out, decide_eq_true g6]; simp
    subst hF'
    have b3 : (0 : Int) < (N : Int) := by omega
    go_enter Try.func53, Try.ntmps53
    go_upto_region 1 with fail
    rw [← hW, ← hBB]
    clear hW hBB
    go_wp2_with (first
      | (go_at_call 59; with_reducible refine Calls.mono (hw.out _ _ true _ r1) ?_; rintro e w3 ⟨rfl, hh⟩; replace hh := hh.symm; subst hh)
      | (go_at_call 59; with_reducible refine Calls.mono (hw.out _ _ true _ r2) ?_; rintro e w3 ⟨rfl, hh⟩; replace hh := hh.symm; subst hh))
    go_ret
    exact ⟨rfl, HBW.out⟩
  have hR2 : Hid (R = cs.all C6.ok) := by
    show _ = _
    rw [HOK.out, decide_eq_true g3, show rng pl 3 = true from r1, show rng tn 59 = true from r2, decide_eq_true g4]
    have : (em && decide (0 < N)) = false := by
      rcases em with _ | _
      · rfl
      · have : ¬ 0 < N := fun h => g5 ⟨rfl, h⟩
        simp [this]
    rw [this]; simp
  have hem : em = false ∨ (em = true ∧ (0 < N) = False) := by
    rcases em with _ | _
    · exact Or.inl rfl
    · exact Or.inr ⟨rfl, eq_false fun h => g5 ⟨rfl, h⟩⟩
  clear HOK g5 g3 g4
  rcases hem with rfl | ⟨rfl, b4⟩
  all_goals
    go_enter Try.func53, Try.ntmps53
    go_upto_region 1 with fail
    rw [← hW, ← hBB]
    clear hW hBB
    go_wp2_with (first
      | (go_at_call 59; with_reducible refine Calls.mono (hw.out _ _ true _ r1) ?_; rintro e w3 ⟨rfl, hh⟩; replace hh := hh.symm; subst hh)
      | (go_at_call 59; with_reducible refine Calls.mono (hw.out _ _ true _ r2) ?_; rintro e w3 ⟨rfl, hh⟩; replace hh := hh.symm; subst hh))
    go_loopw [3] (fun iv wr => ∃ i : Nat, iv = .int .i64 (i : Nat) ∧ i ≤ N ∧ Hid (R = (cs.drop i).all C6.ok) ∧ Hid (Below W.heap.size W wr)) (fun iv _ => N - (intOf iv).toNat)
    case atStart => exact ⟨0, rfl, by omega, hR2, Below.refl _ _⟩
    case round =>
      clear a0 a1 a2 a3 a4
      obtain ⟨i, rfl, hi, hA, hbe⟩ := hrel
      obtain ⟨a0, a1, a2, a3, a4⟩ := HK.out wr hbe.out
      by_cases hlt : i < N
      · have hlb : i < cs.length := by have := HN.out; omega
        have hne : cs ≠ [] := by rintro rfl; simp at hlb
        obtain ⟨b, o, rfl, hc⟩ := H0.out hne
        obtain ⟨c, hci⟩ : ∃ c, cs[i]? = some c := ⟨_, List.getElem?_eq_getElem hlb⟩
        have hcc : ∀ (j : Nat) (u : Value), c.cells[j]? = some u → wr.cell? ⟨b, o + i * 6 + j, none⟩ = some u := fun j u hu => by
          have := hc i c hci j u hu
          rw [hbe.out.cell (p := ⟨b, o + i * 6 + j, none⟩) (lt_of_cell this)]; exact this
        have c0 : wr.cell? ⟨b, o + i * 6, none⟩ = some (.int .i64 c.k) := hcc 0 _ rfl
        have c1 := hcc 1 _ rfl
        have c2 := hcc 2 _ rfl
        have c3 := hcc 3 _ rfl
        have c4 := hcc 4 _ rfl
        have c5 := hcc 5 _ rfl
        have HA2 : Hid (R = (c.ok && (cs.drop (i + 1)).all C6.ok)) := by
          show _ = _
          rw [hA.out, List.drop_eq_getElem_cons hlb, List.all_cons, (List.getElem?_eq_some_iff.1 hci).2]
        have e2 : (i : Int) < (N : Int) := by omega
        have e3 : (0 : Int) ≤ (i : Int) := by omega
        have hcall := hid (hF.out c)
        obtain ⟨q, hq⟩ : ∃ q, q = c.ok := ⟨_, rfl⟩
        rw [← hq] at HA2 hcall
        obtain ⟨k, u, t, h, x, y⟩ := c
        simp only at c0 c1 c2 c3 c4 c5 hcall
        clear hcc hc hci hA hne hq hR2
        rcases q with _ | _
        · go_wp2_with (go_at_call 25; refine Calls.mono (hcall.out _) ?_; rintro e w2 ⟨rfl, hb2⟩)
          go_ret
          exact ⟨by rw [HA2.out]; rfl, HBW.out.trans ((hbe.out.trans (hb2.mono hbe.out.size)).mono HBW.out.size)⟩
        · rw [Bool.true_and] at HA2
          go_wp2_with (go_at_call 25; refine Calls.mono (hcall.out _) ?_; rintro e w2 ⟨rfl, hb2⟩)
          go_roundw
          case rel => exact ⟨i + 1, by go_num, by omega, HA2, hbe.out.trans (hb2.mono hbe.out.size)⟩
          case measure => simp [intOf]; omega
      · have e2 : ((i : Int) < (N : Int)) = False := by simp; omega
        have HA2 : Hid (R = true) := by
          show _ = _
          rw [hA.out, List.drop_eq_nil_of_le (by have := HN.out; omega)]; rfl
        clear hA hR2
        go_wp2_with fail
        go_ret
        exact ⟨by rw [HA2.out]; rfl, HBW.out.trans (hbe.out.mono HBW.out.size)⟩
end Go.Proofs.Ytpiflgbcbhnmpaa
