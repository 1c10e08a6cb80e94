/- The walk of the law RosterNever. -/
import Derived.Test.YtdagkeklfhlcnaaLst
namespace Go.Proofs.Ytdagkeklfhlcnaa
open Go.RowKit
theorem lt_of_cell {w : World} {p : Addr} {v : Value} (h : w.cell? p = some v) : p.block < w.heap.size := by
  rcases Nat.lt_or_ge p.block w.heap.size with h1 | h1
  · exact h1
  · simp [World.cell?, h1] at h
/-- v is a slice of the bytes zs. -/
def BytesAt (w : World) (v : Value) (zs : List Nat) : Prop :=
  ∃ p cap, v = .slice p zs.length cap ∧ (zs ≠ [] → ∃ sb so, p = some ⟨sb, so, none⟩ ∧ ∀ i, i < zs.length → w.cell? ⟨sb, so + i, none⟩ = some (.int .u8 (zs.getD i 0 : Int)))
theorem BytesAt.below {w w' : World} {v : Value} {zs : List Nat} (h : BytesAt w v zs) (hb : Below w.heap.size w w') : BytesAt w' v zs := by
  obtain ⟨p, cap, rfl, h⟩ := h
  refine ⟨p, cap, rfl, fun hn => ?_⟩
  obtain ⟨sb, so, rfl, hcell⟩ := h hn
  exact ⟨sb, so, rfl, fun i hi => by rw [hb.cell (p := ⟨sb, so + i, none⟩) (lt_of_cell (hcell i hi))]; exact hcell i hi⟩
/-- The law answers true, and what lay there is as it was. -/
def OutT (w : World) (e : Ending) (w' : World) : Prop := e = .returned (.bool true) ∧ Below w.heap.size w w'
theorem fnd_some : ∀ (l : List (List Int)) (k : Int) (j : Nat), j < l.length → ∃ i : Nat, i < l.length ∧ fnd l ((l.getD j []).getD 0 0) k = k + i
  | e :: l, k, 0, _ => ⟨0, by simp, by rw [fnd, if_pos (by rfl)]; simp⟩
  | e :: l, k, j + 1, h => by
    have e1 : ((e :: l).getD (j + 1) []) = l.getD j [] := rfl
    rw [e1, fnd]
    split
    · exact ⟨0, by simp, by simp⟩
    · obtain ⟨i, hi, hf⟩ := fnd_some l (k + 1) j (by simpa using h)
      exact ⟨i + 1, by simpa using hi, by rw [hf]; simp; omega⟩
set_option maxHeartbeats 2000000 in
theorem never_many (p : Option Addr) (M cap : Nat) (w : World) (h : 500 < M) : Calls Try.prog 4 #[.slice p M cap] w fun e w' => OutT w e w' := by
  have h7 : Hid (∀ W, Calls Try.prog 7 #[] W fun r w' => Out W (.bool true) r w') := awake_any
  have h' : (500 : Int) < (M : Int) := by omega
  unfold OutT
  unfold Out at h7
  go_enter Try.func4, Try.ntmps4
  go_wp2_with fail
  refine Calls.mono (h7.out _) ?_
  rintro e w1 ⟨rfl, hb1⟩
  have HB1 := hid hb1
  clear hb1
  go_wp2_with fail
  refine Calls.mono (h7.out _) ?_
  rintro e w2 ⟨rfl, hb2⟩
  have HB2 := hid (HB1.out.trans (hb2.mono HB1.out.size))
  clear hb2
  go_wp2
  go_ret
  exact ⟨rfl, HB2.out⟩
set_option maxHeartbeats 8000000 in
theorem never_walk (zs : List Nat) (hz : ∀ z ∈ zs, z < 256) (p : Option Addr) (M cap : Nat) (w : World) (hM : M = zs.length) (hB : BytesAt w (.slice p M cap) zs) (h : M ≤ 500) : Calls Try.prog 4 #[.slice p M cap] w fun e w' => OutT w e w' := by
  have h7 : Hid (∀ W, Calls Try.prog 7 #[] W fun r w' => Out W (.bool true) r w') := awake_any
  have h8 := hid new_any
  have h13 : Hid (∀ b l past W, Tb W b l past → Calls Try.prog 13 #[P b] W fun r w' => OutList W l r w') := fun b l past W h => list_any b l past W h
  have h14 : Hid (∀ b l (past : Int) (e : List Int) W, Tb W b l past → e.length = 11 → 0 ≤ past ∧ past < 2147483646 → l.length < 40 → Calls Try.prog 14 #[P b, E e] W fun r w' => OutIns W b l past e r w') := fun b l past e W h he hp hl => ins_any b l past e he W h hp hl
  have h14f : Hid (∀ b l (past : Int) (e : List Int) W, Tb W b l past → e.length = 11 → 0 ≤ past ∧ past < 2147483646 → l.length = 40 → Calls Try.prog 14 #[P b, E e] W fun r w' => OutFull W r w') := fun b l past e W h he hp hl => insFull_any b l past e he W h (by omega) (Or.inl hl)
  have h11 : Hid (∀ b l (past : Int) W, Tb W b l past → 0 ≤ past ∧ past < 2147483646 → Calls Try.prog 11 #[P b] W fun r w' => r = .returned (.int .i64 (past + 1)) ∧ w' = W) := fun b l past W h hp => by
    have := next_any b l past W h
    rwa [wrap_in _ (by omega)] at this
  have h15 : Hid (∀ b l (past : Int) (j : Nat) W, Tb W b l past → j < l.length → ∃ i, i < l.length ∧ Calls Try.prog 15 #[P b, .int .i64 ((l.getD j []).getD 0 0)] W fun r w' => OutRem W b (l.eraseIdx i) past r w') := fun b l past j W h hj => by
    obtain ⟨i, hi, hf⟩ := fnd_some l 0 j hj
    exact ⟨i, hi, rem_any b l past _ i W h (by rw [hf]; simp) hi⟩
  have HB := hid hB
  have HM := hid (fun (_ : Nat) => hM)
  have HZ : Hid (∀ i, i < M → zs.getD i 0 < 256) := fun i hi => hz _ (by rw [List.getD, List.getElem?_eq_getElem (by omega)]; simp)
  have h' : ((500 : Int) < (M : Int)) = False := by simp; omega
  clear hB hM hz
  unfold OutT
  unfold Out OutIns OutFull OutRem OutList E P at *
  go_enter Try.func4, Try.ntmps4
  go_wp2_with fail
  refine Calls.mono (h7.out _) ?_
  rintro e w1 ⟨rfl, hb1⟩
  have HB1 := hid hb1
  clear hb1
  go_wp2_with fail
  refine Calls.mono (h8.out _) ?_
  rintro e w2 ⟨rfl, ht2, hb2⟩
  obtain ⟨g, hg⟩ : ∃ g, w1.heap.size = g := ⟨_, rfl⟩
  have HG : Hid (w.heap.size ≤ g) := by rw [← hg]; exact HB1.out.size
  rw [hg] at ht2 ⊢
  have HT2 := hid ht2
  have HB2 := hid (HB1.out.trans (hb2.mono HB1.out.size))
  clear ht2 hb2 hg HB1
  go_wp2_with fail
  go_loopw [5, 4] (fun iv lv wr => ∃ (i K : Nat) (l : List (List Int)), i ≤ M ∧ K ≤ i ∧ iv = .int .i64 (i : Int) ∧ lv = .int .i64 (K : Int) ∧ Hid (Tb wr g l (K : Int)) ∧ Hid (Below w.heap.size w wr)) (fun iv _ _ => M - (intOf iv).toNat)
  case atStart => exact ⟨0, 0, [], by omega, by omega, rfl, rfl, HT2, HB2⟩
  case round =>
    clear HT2 HB2
    obtain ⟨i, K, l, hi, hK, rfl, rfl, HT, HBW⟩ := hrel
    by_cases hl : i < M
    · have hl' : (i : Int) < (M : Int) := by omega
      have hl0 : (0 : Int) ≤ (i : Int) := by omega
      obtain ⟨o, ho⟩ : ∃ o : Int, (i : Int).tmod 3 = o := ⟨_, rfl⟩
      have ho' : (i : Int) % 3 = o := by rw [← ho, Int.tmod_eq_emod_of_nonneg hl0]
      by_cases hf : l.length = 40
      · have H14 := hid (h14f.out g l K [0, o, 0, 0, 0, 0, 0, 0, 0, 0, 0] wr HT.out rfl (by omega) hf)
        simp only [List.map_cons, List.map_nil, I] at H14
        go_wp2_with fail
        refine Calls.mono H14.out ?_
        rintro e w3 ⟨rfl, hb3⟩
        have HT3 := hid (HT.out.below hb3 HT.out.lt)
        have HB3 := hid (HBW.out.trans (hb3.mono HBW.out.size))
        clear hb3
        go_wp2_with fail
        refine Calls.mono (h13.out g l K w3 HT3.out) ?_
        rintro e wq ⟨v, rfl, ho4, hb4⟩
        obtain ⟨pv, cv, rfl⟩ := ho4.form
        rw [hf]
        have HTQ := hid (HT3.out.below hb4 HT3.out.lt)
        have HBQ := hid (HB3.out.trans (hb4.mono HB3.out.size))
        clear ho4 hb4 HT HBW HT3 HB3 H14
        have hpos : 0 < l.length := by omega
        have hfew : l.length ≤ 40 := by omega
        clear hf
        obtain ⟨l1, hl1⟩ : ∃ l1, l1 = l := ⟨_, rfl⟩
        obtain ⟨K1, hK1e⟩ : ∃ K1, K1 = K := ⟨_, rfl⟩
        have hK1 : K1 ≤ i + 1 := by omega
        rw [← hl1, ← hK1e] at HTQ
        rw [← hl1] at hpos hfew
        rw [← hK1e]
        clear hl1 hK1e
        go_upto_region 15 with fail
        obtain ⟨sb, so, rfl, hcb⟩ : ∃ sb so, p = some ⟨sb, so, none⟩ ∧ ∀ W', Below w.heap.size w W' → W'.cell? ⟨sb, so + i, none⟩ = some (.int .u8 (zs.getD i 0 : Int)) := by
          obtain ⟨q, c, he, hh⟩ := HB.out
          obtain ⟨sb, so, rfl, hc⟩ := hh (by intro h0; have := HM.out 0; rw [h0] at this; simp at this; omega)
          simp at he
          refine ⟨sb, so, he.1, fun W' hb => ?_⟩
          have h1 := hc i (by have := HM.out 0; omega)
          rw [hb.cell (p := ⟨sb, so + i, none⟩) (lt_of_cell h1)]; exact h1
        have HCB := hid hcb
        have hz := HZ.out i hl
        generalize zs.getD i 0 = z at *
        clear hcb
        have cz := HCB.out wq HBQ.out
        have z0 : (0 : Int) ≤ (z : Int) := by omega
        have z1 : (z : Int) ≤ 255 := by omega
        by_cases h3 : z % 3 = 0
        · have e1 : (z : Int).tmod 3 = 0 := by rw [Int.tmod_eq_emod_of_nonneg z0]; omega
          have e2 : (z : Int) % 3 = 0 := by omega
          go_wp2
          go_roundw
          case rel => exact ⟨i + 1, K1, l1, by omega, hK1, by simp, rfl, HTQ, HBQ⟩
          case measure => simp [intOf]; omega
        · obtain ⟨y, hy⟩ : ∃ y : Int, (z : Int) % 3 = y := ⟨_, rfl⟩
          have hy1 : 0 < y := by omega
          have hy2 : (z : Int).tmod 3 = y := by rw [Int.tmod_eq_emod_of_nonneg z0]; exact hy
          have hy3 : y ≤ 2 := by omega
          go_wp2_with fail
          refine Calls.mono (h13.out g l1 K1 wq HTQ.out) ?_
          rintro e w5 ⟨v, rfl, ho5, hb5⟩
          obtain ⟨pv, cv, rfl⟩ := ho5.form
          obtain ⟨N, hN⟩ : ∃ N, l1.length = N := ⟨_, rfl⟩
          rw [hN] at ho5 hpos hfew ⊢
          have HN : Hid (∀ _ : Nat, l1.length = N) := fun _ => hN
          obtain ⟨-, g5, rfl, -, -, -, hc5⟩ := ho5.at hpos
          obtain ⟨k, hk⟩ : ∃ k, k = z % N := ⟨_, rfl⟩
          have hkN : k < N := by rw [hk]; exact Nat.mod_lt _ hpos
          have ck := hc5 k hkN 0 (by omega)
          rw [Nat.add_zero] at ck
          have HB5 := hid (HBQ.out.trans (hb5.mono HBQ.out.size))
          have HT5 := hid (HTQ.out.below hb5 HTQ.out.lt)
          have cz5 := HCB.out w5 HB5.out
          have N0 : (N : Int) ≠ 0 := by omega
          have N1 : ((N : Int) == 0) = false := by simp; omega
          have k1 : (z : Int).tmod (N : Int) = (k : Int) := by rw [Int.tmod_eq_emod_of_nonneg z0, hk]; simp
          have k2 : (z : Int) % (N : Int) = (k : Int) := by rw [hk]; simp
          have k3 : (k : Int) < (N : Int) := by omega
          have k4 : (0 : Int) ≤ (k : Int) := by omega
          obtain ⟨ri, hri, h15r⟩ := h15.out g l1 K1 k w5 HT5.out (by have := HN.out 0; omega)
          have H15 := hid h15r
          generalize (l1.getD k []).getD 0 0 = ID at *
          clear hc5 ho5 hb5 hk hN h15r
          go_wp2_with fail
          refine Calls.mono H15.out ?_
          rintro e w6 ⟨rfl, ht6, ho6⟩
          have HT6 := hid ht6
          have HB6 := hid (Only.below HB5.out ho6 HG.out HB5.out.size)
          clear ht6 ho6
          go_wp2
          go_roundw
          case rel => exact ⟨i + 1, K1, _, by omega, hK1, by simp, rfl, HT6, HB6⟩
          case measure => simp [intOf]; omega
      · have hf40 := HT.out.few
        have H14 := hid (h14.out g l K [0, o, 0, 0, 0, 0, 0, 0, 0, 0, 0] wr HT.out rfl (by omega) (by omega))
        simp only [List.map_cons, List.map_nil, I, List.set_cons_zero] at H14
        go_wp2_with fail
        refine Calls.mono H14.out ?_
        rintro e wq ⟨rfl, ht3, ho3⟩
        have HTQ := hid ht3
        have HBQ := hid (Only.below HBW.out ho3 HG.out HBW.out.size)
        clear ht3 ho3 HT HBW H14
        have hle : ((K : Int) + 1 ≤ (K : Int)) = False := by simp; omega
        have hpos : 0 < (l ++ [[(K : Int) + 1, o, 0, 0, 0, 0, 0, 0, 0, 0, 0]]).length := by simp
        have hfew : (l ++ [[(K : Int) + 1, o, 0, 0, 0, 0, 0, 0, 0, 0, 0]]).length ≤ 40 := by simp; omega
        go_upto_region 15 with fail
        generalize l ++ [[(K : Int) + 1, o, 0, 0, 0, 0, 0, 0, 0, 0, 0]] = l1 at *
        obtain ⟨K1, hK1e⟩ : ∃ K1 : Nat, (K1 : Int) = (K : Int) + 1 := ⟨K + 1, by simp⟩
        have hK1 : K1 ≤ i + 1 := by omega
        rw [← hK1e] at HTQ ⊢
        clear hK1e hle hf
        obtain ⟨sb, so, rfl, hcb⟩ : ∃ sb so, p = some ⟨sb, so, none⟩ ∧ ∀ W', Below w.heap.size w W' → W'.cell? ⟨sb, so + i, none⟩ = some (.int .u8 (zs.getD i 0 : Int)) := by
          obtain ⟨q, c, he, hh⟩ := HB.out
          obtain ⟨sb, so, rfl, hc⟩ := hh (by intro h0; have := HM.out 0; rw [h0] at this; simp at this; omega)
          simp at he
          refine ⟨sb, so, he.1, fun W' hb => ?_⟩
          have h1 := hc i (by have := HM.out 0; omega)
          rw [hb.cell (p := ⟨sb, so + i, none⟩) (lt_of_cell h1)]; exact h1
        have HCB := hid hcb
        have hz := HZ.out i hl
        generalize zs.getD i 0 = z at *
        clear hcb
        have cz := HCB.out wq HBQ.out
        have z0 : (0 : Int) ≤ (z : Int) := by omega
        have z1 : (z : Int) ≤ 255 := by omega
        by_cases h3 : z % 3 = 0
        · have e1 : (z : Int).tmod 3 = 0 := by rw [Int.tmod_eq_emod_of_nonneg z0]; omega
          have e2 : (z : Int) % 3 = 0 := by omega
          go_wp2
          go_roundw
          case rel => exact ⟨i + 1, K1, l1, by omega, hK1, by simp, rfl, HTQ, HBQ⟩
          case measure => simp [intOf]; omega
        · obtain ⟨y, hy⟩ : ∃ y : Int, (z : Int) % 3 = y := ⟨_, rfl⟩
          have hy1 : 0 < y := by omega
          have hy2 : (z : Int).tmod 3 = y := by rw [Int.tmod_eq_emod_of_nonneg z0]; exact hy
          have hy3 : y ≤ 2 := by omega
          go_wp2_with fail
          refine Calls.mono (h13.out g l1 K1 wq HTQ.out) ?_
          rintro e w5 ⟨v, rfl, ho5, hb5⟩
          obtain ⟨pv, cv, rfl⟩ := ho5.form
          obtain ⟨N, hN⟩ : ∃ N, l1.length = N := ⟨_, rfl⟩
          rw [hN] at ho5 hpos hfew ⊢
          have HN : Hid (∀ _ : Nat, l1.length = N) := fun _ => hN
          obtain ⟨-, g5, rfl, -, -, -, hc5⟩ := ho5.at hpos
          obtain ⟨k, hk⟩ : ∃ k, k = z % N := ⟨_, rfl⟩
          have hkN : k < N := by rw [hk]; exact Nat.mod_lt _ hpos
          have ck := hc5 k hkN 0 (by omega)
          rw [Nat.add_zero] at ck
          have HB5 := hid (HBQ.out.trans (hb5.mono HBQ.out.size))
          have HT5 := hid (HTQ.out.below hb5 HTQ.out.lt)
          have cz5 := HCB.out w5 HB5.out
          have N0 : (N : Int) ≠ 0 := by omega
          have N1 : ((N : Int) == 0) = false := by simp; omega
          have k1 : (z : Int).tmod (N : Int) = (k : Int) := by rw [Int.tmod_eq_emod_of_nonneg z0, hk]; simp
          have k2 : (z : Int) % (N : Int) = (k : Int) := by rw [hk]; simp
          have k3 : (k : Int) < (N : Int) := by omega
          have k4 : (0 : Int) ≤ (k : Int) := by omega
          obtain ⟨ri, hri, h15r⟩ := h15.out g l1 K1 k w5 HT5.out (by have := HN.out 0; omega)
          have H15 := hid h15r
          generalize (l1.getD k []).getD 0 0 = ID at *
          clear hc5 ho5 hb5 hk hN h15r
          go_wp2_with fail
          refine Calls.mono H15.out ?_
          rintro e w6 ⟨rfl, ht6, ho6⟩
          have HT6 := hid ht6
          have HB6 := hid (Only.below HB5.out ho6 HG.out HB5.out.size)
          clear ht6 ho6
          go_wp2
          go_roundw
          case rel => exact ⟨i + 1, K1, _, by omega, hK1, by simp, rfl, HT6, HB6⟩
          case measure => simp [intOf]; omega
    · obtain rfl : i = M := by omega
      have hl' : ((i : Int) < (i : Int)) = False := by simp
      have hK1 : (K : Int) + 1 ≤ 9223372036854775807 := by omega
      go_wp2_with fail
      refine Calls.mono (h11.out g l K wr HT.out (by omega)) ?_
      rintro e w3 ⟨rfl, rfl⟩
      go_wp2
      go_ret
      exact ⟨rfl, HBW.out⟩
end Go.Proofs.Ytdagkeklfhlcnaa
