/- Who is at a cell: the program's At, the reference's. -/
import Derived.Test.YtdagkeklfhlcnaaRfb
namespace Go.Proofs.Ytdagkeklfhlcnaa
open Go.RowKit
/-- The first entity at the cell, and whether there is one. -/
def atV : List (List Int) → Int → Int → List Int × Bool
  | [], _, _ => (zE, false)
  | e :: l, x, y => if e.getD 3 0 = x ∧ e.getD 4 0 = y then (e, true) else atV l x y
theorem atV_at : ∀ (l : List (List Int)) (x y : Int) (i : Nat), i < l.length → (∀ j, j < i → ¬ ((l.getD j []).getD 3 0 = x ∧ (l.getD j []).getD 4 0 = y)) → ((l.getD i []).getD 3 0 = x ∧ (l.getD i []).getD 4 0 = y) → atV l x y = (l.getD i [], true)
  | e :: l, x, y, 0, _, _, h => by
    rw [atV]; exact if_pos h
  | e :: l, x, y, i + 1, hi, hn, h => by
    have h0 : ¬ (e.getD 3 0 = x ∧ e.getD 4 0 = y) := hn 0 (by omega)
    rw [atV, if_neg h0]
    exact atV_at l x y i (by simpa using hi) (fun j hj => hn (j + 1) (by omega)) h
theorem atV_none : ∀ (l : List (List Int)) (x y : Int), (∀ j, j < l.length → ¬ ((l.getD j []).getD 3 0 = x ∧ (l.getD j []).getD 4 0 = y)) → atV l x y = (zE, false)
  | [], _, _, _ => rfl
  | e :: l, x, y, hn => by
    have h0 : ¬ (e.getD 3 0 = x ∧ e.getD 4 0 = y) := hn 0 (by simp)
    rw [atV, if_neg h0]
    exact atV_none l x y (fun j hj => hn (j + 1) (by simpa using hj))
set_option maxRecDepth 20000 in
set_option maxHeartbeats 4000000 in
theorem at_any (b : Nat) (l : List (List Int)) (past x y : Int) (w : World) (h : Tb w b l past) : Calls Try.prog 18 #[P b, .agg #[.int .i64 x, .int .i64 y]] w fun r w' => Out w (.tuple #[E (atV l x y).1, .bool (atV l x y).2]) r w' := by
  have h29 : Hid (∀ W, Tb W b l past → Calls Try.prog 29 #[P b] W fun e w' => e = .returned (.slice (some ⟨b, 0, none⟩) l.length 40) ∧ ∃ k, w' = W.drewN k) := fun W h => all_any b l past W h
  have HT := hid h
  have HLT := hid h.lt
  have hn := h.few
  obtain ⟨N, hN⟩ : ∃ N, N = l.length := ⟨_, rfl⟩
  have HN := hid (fun (_ : Nat) => hN)
  rw [← hN] at h29 hn
  obtain ⟨V, hV⟩ : ∃ V, V = atV l x y := ⟨_, rfl⟩
  rw [← hV]
  have HV := hid (fun (_ : Nat) => hV)
  obtain ⟨W, hW⟩ : ∃ W, W = (w.alloc (.cells #[Value.int .i64 x, .int .i64 y] 30)).alloc (.cells #[Value.int .i64 0, .int .i64 0, .int .i64 0, .int .i64 0, .int .i64 0, .int .i64 0, .int .i64 0, .int .i64 0, .int .i64 0, .int .i64 0, .int .i64 0] 32) := ⟨_, rfl⟩
  obtain ⟨g, hg⟩ : ∃ g, g = w.heap.size + 1 := ⟨_, rfl⟩
  obtain ⟨B, hB⟩ : ∃ B, B = w.heap.size := ⟨_, rfl⟩
  have HBW : Hid (Below w.heap.size w W) := by rw [hW]; exact ((Below.refl _ _).alloc (Nat.le_refl _) _).alloc (by simp) _
  have HGW : Hid (Blk W g [.int .i64 0, .int .i64 0, .int .i64 0, .int .i64 0, .int .i64 0, .int .i64 0, .int .i64 0, .int .i64 0, .int .i64 0, .int .i64 0, .int .i64 0] 32) := by rw [hW]; exact Blk.new' _ _ _ _ (by simp [hg])
  have HQW : Hid (Blk W B [.int .i64 x, .int .i64 y] 30) := by rw [hW, hB]; exact (Blk.new _ _ _).alloc _
  have HG : Hid (w.heap.size ≤ g) := by show _ ≤ _; omega
  unfold P Out at *
  clear h hN hV
  go_enter Try.func18, Try.ntmps18
  go_upto_region 1 with fail
  rw [← hW, ← hg, ← hB]
  clear hW hg hB
  go_wp2_with fail
  refine Calls.mono (h29.out _ (HT.out.below HBW.out HLT.out)) ?_
  rintro e w1 ⟨rfl, k, hw1⟩
  have HBK : Hid (Below W.heap.size W w1) := by rw [hw1]; exact Below.drewN1 W k
  clear hw1 h29
  go_wp2_with fail
  go_loopw [11] (fun iv wr => ∃ i : Nat, i ≤ N ∧ iv = .int .i64 (i : Int) ∧ Hid (Below W.heap.size W wr) ∧ Hid (∀ j, j < i → ¬ ((l.getD j []).getD 3 0 = x ∧ (l.getD j []).getD 4 0 = y))) (fun iv _ => N - (intOf iv).toNat)
  case atStart => exact ⟨0, by omega, rfl, HBK, fun j hj => by omega⟩
  case round =>
    obtain ⟨i, hi, rfl, HB1, HJ⟩ := hrel
    have q0 : wr.cell? ⟨B, 0, none⟩ = some (.int .i64 x) := (HQW.out.below HB1.out HQW.out.lt).cell 0
    have q1 : wr.cell? ⟨B, 1, none⟩ = some (.int .i64 y) := (HQW.out.below HB1.out HQW.out.lt).cell 1
    by_cases hl : i < N
    · have hl' : (i : Int) < (N : Int) := by omega
      have hl0 : (0 : Int) ≤ (i : Int) := by omega
      obtain ⟨z0, z1, z2, z3, z4, z5, z6, z7, z8, z9, z10, he, hc⟩ := HT.out.nums i (by have := HN.out 0; omega)
      obtain ⟨c0, c1, c2, c3, c4, c5, c6, c7, c8, c9, c10⟩ := hc wr ((HBW.out.trans (HB1.out.mono HBW.out.size)).block b HLT.out)
      have HE : Hid ((l.getD i []) = [z0, z1, z2, z3, z4, z5, z6, z7, z8, z9, z10]) := he
      clear hc he
      have q2 : (wr.alloc (.cells #[Value.int .i64 z0, .int .i64 z1, .int .i64 z2, .int .i64 z3, .int .i64 z4, .int .i64 z5, .int .i64 z6, .int .i64 z7, .int .i64 z8, .int .i64 z9, .int .i64 z10] 32)).cell? ⟨B, 0, none⟩ = some (.int .i64 x) := ((HQW.out.below HB1.out HQW.out.lt).alloc _).cell 0
      have q3 : (wr.alloc (.cells #[Value.int .i64 z0, .int .i64 z1, .int .i64 z2, .int .i64 z3, .int .i64 z4, .int .i64 z5, .int .i64 z6, .int .i64 z7, .int .i64 z8, .int .i64 z9, .int .i64 z10] 32)).cell? ⟨B, 1, none⟩ = some (.int .i64 y) := ((HQW.out.below HB1.out HQW.out.lt).alloc _).cell 1
      by_cases hm : z3 = x ∧ z4 = y
      · obtain ⟨rfl, rfl⟩ := hm
        have hV : V = ([z0, z1, z2, z3, z4, z5, z6, z7, z8, z9, z10], true) := by
          rw [HV.out 0, atV_at l z3 z4 i (by have := HN.out 0; omega) HJ.out (by rw [HE.out]; exact ⟨rfl, rfl⟩), HE.out]
        subst hV
        have hcs : Hid (∀ v ∈ [Value.int .i64 z0, .int .i64 z1, .int .i64 z2, .int .i64 z3, .int .i64 z4, .int .i64 z5, .int .i64 z6, .int .i64 z7, .int .i64 z8, .int .i64 z9, .int .i64 z10], v.oneCell' = true) := ent_one [z0, z1, z2, z3, z4, z5, z6, z7, z8, z9, z10]
        have hsz : Hid ((Try.prog.info? 32).map (·.size) = some [Value.int .i64 z0, .int .i64 z1, .int .i64 z2, .int .i64 z3, .int .i64 z4, .int .i64 z5, .int .i64 z6, .int .i64 z7, .int .i64 z8, .int .i64 z9, .int .i64 z10].length) := size32
        have HGA : Hid (Blk (wr.alloc (.cells #[Value.int .i64 z0, .int .i64 z1, .int .i64 z2, .int .i64 z3, .int .i64 z4, .int .i64 z5, .int .i64 z6, .int .i64 z7, .int .i64 z8, .int .i64 z9, .int .i64 z10] 32)) g [.int .i64 0, .int .i64 0, .int .i64 0, .int .i64 0, .int .i64 0, .int .i64 0, .int .i64 0, .int .i64 0, .int .i64 0, .int .i64 0, .int .i64 0] 32) := (HGW.out.below HB1.out HGW.out.lt).alloc _
        have HTH : Hid ((wr.alloc (.cells #[Value.int .i64 z0, .int .i64 z1, .int .i64 z2, .int .i64 z3, .int .i64 z4, .int .i64 z5, .int .i64 z6, .int .i64 z7, .int .i64 z8, .int .i64 z9, .int .i64 z10] 32)).there g 0 [Value.int .i64 z0, .int .i64 z1, .int .i64 z2, .int .i64 z3, .int .i64 z4, .int .i64 z5, .int .i64 z6, .int .i64 z7, .int .i64 z8, .int .i64 z9, .int .i64 z10].length) := HGA.out.there 0 11 (by simp)
        have HBZ : Hid (Below w.heap.size w (wr.alloc (.cells #[Value.int .i64 z0, .int .i64 z1, .int .i64 z2, .int .i64 z3, .int .i64 z4, .int .i64 z5, .int .i64 z6, .int .i64 z7, .int .i64 z8, .int .i64 z9, .int .i64 z10] 32))) := (HBW.out.trans (HB1.out.mono HBW.out.size)).alloc (Nat.le_trans HBW.out.size HB1.out.size) _
        go_wp2_with (first
          | ((with_reducible refine wpL_store 32 g 0 [Value.int .i64 z0, .int .i64 z1, .int .i64 z2, .int .i64 z3, .int .i64 z4, .int .i64 z5, .int .i64 z6, .int .i64 z7, .int .i64 z8, .int .i64 z9, .int .i64 z10] ?_ ?_ HTH.out hsz.out hcs.out ?_); (rfl); (rfl); (simp only [Act.put])))
        have hb := HGA.out.setCells [Value.int .i64 z0, .int .i64 z1, .int .i64 z2, .int .i64 z3, .int .i64 z4, .int .i64 z5, .int .i64 z6, .int .i64 z7, .int .i64 z8, .int .i64 z9, .int .i64 z10] 0 (by simp)
        exact bodyPost_ret (results_cell_tmp Try.results18 rfl rfl hb Try.underlying32 rfl size32) rfl ⟨rfl, Below.setCells HBZ.out HG.out _ _⟩
      · have HJ2 : Hid (∀ j, j < i + 1 → ¬ ((l.getD j []).getD 3 0 = x ∧ (l.getD j []).getD 4 0 = y)) := fun j hj => by
          rcases Nat.lt_or_ge j i with h1 | h1
          · exact HJ.out j h1
          · obtain rfl : j = i := by omega
            rw [HE.out]; exact hm
        have hcase : (z3 = x) = False ∨ ((z3 = x) = True ∧ (z4 = y) = False) := by
          by_cases h1 : z3 = x
          · right; exact ⟨by simp [h1], by simp; exact fun h2 => hm ⟨h1, h2⟩⟩
          · left; simp [h1]
        clear hm
        rcases hcase with h1 | ⟨h1, h2⟩
        · have e1 : (z3 == x) = false := by simpa using h1
          clear h1
          go_wp2
          go_roundw
          case rel => exact ⟨i + 1, by omega, by simp, hid (HB1.out.alloc HB1.out.size _), HJ2⟩
          case measure => simp [intOf]; omega
        · have e1 : (z3 == x) = true := by simpa using h1
          have e2 : (z4 == y) = false := by simpa using h2
          clear h1 h2
          go_wp2
          go_roundw
          case rel => exact ⟨i + 1, by omega, by simp, hid (HB1.out.alloc HB1.out.size _), HJ2⟩
          case measure => simp [intOf]; omega
    · obtain rfl : i = N := by omega
      have hl' : ((i : Int) < (i : Int)) = False := by simp
      have hV : V = (zE, false) := by rw [HV.out 0]; exact atV_none l x y (fun j hj => HJ.out j (by have := HN.out 0; omega))
      subst hV
      have hcs := hid zone
      have HTH : Hid (wr.there g 0 [Value.int .i64 0, .int .i64 0, .int .i64 0, .int .i64 0, .int .i64 0, .int .i64 0, .int .i64 0, .int .i64 0, .int .i64 0, .int .i64 0, .int .i64 0].length) := (HGW.out.below HB1.out HGW.out.lt).there 0 11 (by simp)
      have hsz := hid zsize
      go_wp2_with (first
        | ((with_reducible refine wpL_store 32 g 0 [Value.int .i64 0, .int .i64 0, .int .i64 0, .int .i64 0, .int .i64 0, .int .i64 0, .int .i64 0, .int .i64 0, .int .i64 0, .int .i64 0, .int .i64 0] ?_ ?_ HTH.out hsz.out hcs.out ?_); (rfl); (rfl); (simp only [Act.put])))
      have hb := (HGW.out.below HB1.out HGW.out.lt).setCells [Value.int .i64 0, .int .i64 0, .int .i64 0, .int .i64 0, .int .i64 0, .int .i64 0, .int .i64 0, .int .i64 0, .int .i64 0, .int .i64 0, .int .i64 0] 0 (by simp)
      exact bodyPost_ret (results_cell_tmp Try.results18 rfl rfl hb Try.underlying32 rfl size32) rfl ⟨rfl, Below.setCells (HBW.out.trans (HB1.out.mono HBW.out.size)) HG.out _ _⟩
set_option maxRecDepth 20000 in
set_option maxHeartbeats 4000000 in
theorem rat_any (r : Nat) (l : List (List Int)) (nx x y : Int) (w : World) (h : Rf w r l nx) (hs : l.length ≤ 1000000) : Calls Try.prog 27 #[P r, .agg #[.int .i64 x, .int .i64 y]] w fun e w' => Out w (.tuple #[E (atV l x y).1, .bool (atV l x y).2]) e w' := by
  have HT := hid h
  have HRL := hid h.lt
  obtain ⟨v, hb, ho⟩ := h
  obtain ⟨p, cap, rfl⟩ := ho.form
  obtain ⟨N, hN⟩ : ∃ N, N = l.length := ⟨_, rfl⟩
  have HN := hid (fun (_ : Nat) => hN)
  rw [← hN] at hb ho hs
  have HRB := hid hb
  have HO := hid ho
  obtain ⟨V, hV⟩ : ∃ V, V = atV l x y := ⟨_, rfl⟩
  rw [← hV]
  have HV := hid (fun (_ : Nat) => hV)
  obtain ⟨W, hW⟩ : ∃ W, W = (w.alloc (.cells #[Value.int .i64 x, .int .i64 y] 30)).alloc (.cells #[Value.int .i64 0, .int .i64 0, .int .i64 0, .int .i64 0, .int .i64 0, .int .i64 0, .int .i64 0, .int .i64 0, .int .i64 0, .int .i64 0, .int .i64 0] 32) := ⟨_, rfl⟩
  obtain ⟨g, hg⟩ : ∃ g, g = w.heap.size + 1 := ⟨_, rfl⟩
  obtain ⟨B, hB⟩ : ∃ B, B = w.heap.size := ⟨_, rfl⟩
  have HBW : Hid (Below w.heap.size w W) := by rw [hW]; exact ((Below.refl _ _).alloc (Nat.le_refl _) _).alloc (by simp) _
  have HGW : Hid (Blk W g [.int .i64 0, .int .i64 0, .int .i64 0, .int .i64 0, .int .i64 0, .int .i64 0, .int .i64 0, .int .i64 0, .int .i64 0, .int .i64 0, .int .i64 0] 32) := by rw [hW]; exact Blk.new' _ _ _ _ (by simp [hg])
  have HQW : Hid (Blk W B [.int .i64 x, .int .i64 y] 30) := by rw [hW, hB]; exact (Blk.new _ _ _).alloc _
  have HG : Hid (w.heap.size ≤ g) := by show _ ≤ _; omega
  unfold P Out at *
  clear hb ho hN hV HT
  go_enter Try.func27, Try.ntmps27
  go_upto_region 1 with fail
  rw [← hW, ← hg, ← hB]
  clear hW hg hB
  go_wp2_with fail
  go_loopw [6] (fun iv wr => ∃ i : Nat, i ≤ N ∧ iv = .int .i64 (i : Int) ∧ Hid (Below W.heap.size W wr) ∧ Hid (∀ j, j < i → ¬ ((l.getD j []).getD 3 0 = x ∧ (l.getD j []).getD 4 0 = y))) (fun iv _ => N - (intOf iv).toNat)
  case atStart => exact ⟨0, by omega, rfl, hid (Below.refl _ _), fun j hj => by omega⟩
  case round =>
    obtain ⟨i, hi, rfl, HB1, HJ⟩ := hrel
    have q0 : wr.cell? ⟨B, 0, none⟩ = some (.int .i64 x) := (HQW.out.below HB1.out HQW.out.lt).cell 0
    have q1 : wr.cell? ⟨B, 1, none⟩ = some (.int .i64 y) := (HQW.out.below HB1.out HQW.out.lt).cell 1
    by_cases hl : i < N
    · have hl' : (i : Int) < (N : Int) := by omega
      have hl0 : (0 : Int) ≤ (i : Int) := by omega
      have d0 : wr.cell? ⟨r, 0, none⟩ = some (.slice p N cap) := (HRB.out.below (HBW.out.trans (HB1.out.mono HBW.out.size)) HRL.out).cell 0
      obtain ⟨u, z0, z1, z2, z3, z4, z5, z6, z7, z8, z9, z10, rfl, -, hu, he, hc⟩ := HO.out.nums i hl
      obtain ⟨c0, c1, c2, c3, c4, c5, c6, c7, c8, c9, c10⟩ := hc wr ((HBW.out.trans (HB1.out.mono HBW.out.size)).block u hu)
      clear hu
      have HE : Hid ((l.getD i []) = [z0, z1, z2, z3, z4, z5, z6, z7, z8, z9, z10]) := he
      clear hc he
      by_cases hm : z3 = x ∧ z4 = y
      · obtain ⟨rfl, rfl⟩ := hm
        have hV : V = ([z0, z1, z2, z3, z4, z5, z6, z7, z8, z9, z10], true) := by
          rw [HV.out 0, atV_at l z3 z4 i (by have := HN.out 0; omega) HJ.out (by rw [HE.out]; exact ⟨rfl, rfl⟩), HE.out]
        subst hV
        have hcs : Hid (∀ v ∈ [Value.int .i64 z0, .int .i64 z1, .int .i64 z2, .int .i64 z3, .int .i64 z4, .int .i64 z5, .int .i64 z6, .int .i64 z7, .int .i64 z8, .int .i64 z9, .int .i64 z10], v.oneCell' = true) := ent_one [z0, z1, z2, z3, z4, z5, z6, z7, z8, z9, z10]
        have hsz : Hid ((Try.prog.info? 32).map (·.size) = some [Value.int .i64 z0, .int .i64 z1, .int .i64 z2, .int .i64 z3, .int .i64 z4, .int .i64 z5, .int .i64 z6, .int .i64 z7, .int .i64 z8, .int .i64 z9, .int .i64 z10].length) := size32
        go_upto_region 4 with fail
        go_quiet (fail)
        have HGA : Hid (Blk (wr.drewN nq) g [.int .i64 0, .int .i64 0, .int .i64 0, .int .i64 0, .int .i64 0, .int .i64 0, .int .i64 0, .int .i64 0, .int .i64 0, .int .i64 0, .int .i64 0] 32) := (HGW.out.below HB1.out HGW.out.lt).drewN nq
        have HTH : Hid ((wr.drewN nq).there g 0 [Value.int .i64 z0, .int .i64 z1, .int .i64 z2, .int .i64 z3, .int .i64 z4, .int .i64 z5, .int .i64 z6, .int .i64 z7, .int .i64 z8, .int .i64 z9, .int .i64 z10].length) := HGA.out.there 0 11 (by simp)
        have HBZ : Hid (Below w.heap.size w (wr.drewN nq)) := Below.drewN (HBW.out.trans (HB1.out.mono HBW.out.size)) nq
        go_wp2_with (first
          | ((with_reducible refine wpL_store 32 g 0 [Value.int .i64 z0, .int .i64 z1, .int .i64 z2, .int .i64 z3, .int .i64 z4, .int .i64 z5, .int .i64 z6, .int .i64 z7, .int .i64 z8, .int .i64 z9, .int .i64 z10] ?_ ?_ HTH.out hsz.out hcs.out ?_); (rfl); (rfl); (simp only [Act.put])))
        have hb := HGA.out.setCells [Value.int .i64 z0, .int .i64 z1, .int .i64 z2, .int .i64 z3, .int .i64 z4, .int .i64 z5, .int .i64 z6, .int .i64 z7, .int .i64 z8, .int .i64 z9, .int .i64 z10] 0 (by simp)
        exact bodyPost_ret (results_cell_tmp Try.results27 rfl rfl hb Try.underlying32 rfl size32) rfl ⟨rfl, Below.setCells HBZ.out HG.out _ _⟩
      · have HJ2 : Hid (∀ j, j < i + 1 → ¬ ((l.getD j []).getD 3 0 = x ∧ (l.getD j []).getD 4 0 = y)) := fun j hj => by
          rcases Nat.lt_or_ge j i with h1 | h1
          · exact HJ.out j h1
          · obtain rfl : j = i := by omega
            rw [HE.out]; exact hm
        have hcase : (z3 = x) = False ∨ ((z3 = x) = True ∧ (z4 = y) = False) := by
          by_cases h1 : z3 = x
          · right; exact ⟨by simp [h1], by simp; exact fun h2 => hm ⟨h1, h2⟩⟩
          · left; simp [h1]
        clear hm
        rcases hcase with h1 | ⟨h1, h2⟩
        · have e1 : (z3 == x) = false := by simpa using h1
          clear h1
          go_upto_region 4 with fail
          go_quiet (fail)
          go_wp2
          go_roundw
          case rel => exact ⟨i + 1, by omega, by simp, hid (Below.drewN HB1.out nq), HJ2⟩
          case measure => simp [intOf]; omega
        · have e1 : (z3 == x) = true := by simpa using h1
          have e2 : (z4 == y) = false := by simpa using h2
          clear h1 h2
          go_upto_region 4 with fail
          go_quiet (fail)
          go_wp2
          go_roundw
          case rel => exact ⟨i + 1, by omega, by simp, hid (Below.drewN HB1.out nq), HJ2⟩
          case measure => simp [intOf]; omega
    · obtain rfl : i = N := by omega
      have hl' : ((i : Int) < (i : Int)) = False := by simp
      have d0 : wr.cell? ⟨r, 0, none⟩ = some (.slice p i cap) := (HRB.out.below (HBW.out.trans (HB1.out.mono HBW.out.size)) HRL.out).cell 0
      have hV : V = (zE, false) := by rw [HV.out 0]; exact atV_none l x y (fun j hj => HJ.out j (by have := HN.out 0; omega))
      subst hV
      have hcs := hid zone
      have HTH : Hid (wr.there g 0 [Value.int .i64 0, .int .i64 0, .int .i64 0, .int .i64 0, .int .i64 0, .int .i64 0, .int .i64 0, .int .i64 0, .int .i64 0, .int .i64 0, .int .i64 0].length) := (HGW.out.below HB1.out HGW.out.lt).there 0 11 (by simp)
      have hsz := hid zsize
      go_wp2_with (first
        | ((with_reducible refine wpL_store 32 g 0 [Value.int .i64 0, .int .i64 0, .int .i64 0, .int .i64 0, .int .i64 0, .int .i64 0, .int .i64 0, .int .i64 0, .int .i64 0, .int .i64 0, .int .i64 0] ?_ ?_ HTH.out hsz.out hcs.out ?_); (rfl); (rfl); (simp only [Act.put])))
      have hb := (HGW.out.below HB1.out HGW.out.lt).setCells [Value.int .i64 0, .int .i64 0, .int .i64 0, .int .i64 0, .int .i64 0, .int .i64 0, .int .i64 0, .int .i64 0, .int .i64 0, .int .i64 0, .int .i64 0] 0 (by simp)
      exact bodyPost_ret (results_cell_tmp Try.results27 rfl rfl hb Try.underlying32 rfl size32) rfl ⟨rfl, Below.setCells (HBW.out.trans (HB1.out.mono HBW.out.size)) HG.out _ _⟩
end Go.Proofs.Ytdagkeklfhlcnaa
