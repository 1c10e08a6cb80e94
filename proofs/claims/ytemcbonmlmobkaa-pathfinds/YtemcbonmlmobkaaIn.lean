/- Is a cell in a list; few. -/
import Derived.Test.YtemcbonmlmobkaaSearch
namespace Go.Proofs.Ytemcbonmlmobkaa
open Go.RowKit
attribute [local go_sem ↓] run_neqC run_eqlC
theorem has_at {cs : List Cl} {c : Cl} {k : Nat} (hk : k < cs.length) (h : cs.getD k (0, 0) = c) : cs.contains c = true := by
  rw [List.contains_iff_mem]
  rw [List.getD_eq_getElem?_getD, List.getElem?_eq_getElem hk, Option.getD_some] at h
  rw [← h]; exact List.getElem_mem hk
theorem has_no {cs : List Cl} {c : Cl} (h : ∀ i, i < cs.length → cs.getD i (0, 0) ≠ c) : cs.contains c = false := by
  rw [Bool.eq_false_iff]
  intro hc
  rw [List.contains_iff_mem] at hc
  obtain ⟨i, hi, he⟩ := List.getElem_of_mem hc
  refine h i hi ?_
  rw [List.getD_eq_getElem?_getD, List.getElem?_eq_getElem hi, Option.getD_some, he]
set_option maxHeartbeats 4000000 in
theorem in_any (cs : List Cl) (p : Option Addr) (N cap : Nat) (x y : Int) (w : World) (h : CellsAt w (.slice p N cap) cs) (hN : N ≤ 1000) :
    Calls Try.prog 17 #[.slice p N cap, C x y] w fun e w' => Out w (.bool (cs.contains (x, y))) e w' := by
  have HL : Hid (N = cs.length) := by
    obtain ⟨q, c, e, _⟩ := h
    simp only [Value.slice.injEq] at e
    exact e.2.1
  have HH := hid (fun W (hb : Below w.heap.size w W) => h.below hb)
  have HA : Hid (∀ k, k < N → cs.getD k (0, 0) = (x, y) → cs.contains (x, y) = true) := fun k hk he => has_at (by rw [← HL.out]; exact hk) he
  have HB : Hid ((∀ i, i < N → cs.getD i (0, 0) ≠ (x, y)) → cs.contains (x, y) = false) := fun hn => has_no fun i hi => hn i (by rw [HL.out]; exact hi)
  generalize hR : cs.contains (x, y) = R at *
  clear h hR
  unfold Out C
  go_enter Try.func17, Try.ntmps17
  go_upto_region 2 with fail
  obtain ⟨W, hW⟩ : ∃ W, W = w.alloc (.cells #[Value.int .i64 x, .int .i64 y] 27) := ⟨_, rfl⟩
  obtain ⟨B, hB⟩ : ∃ B, B = w.heap.size := ⟨_, rfl⟩
  have HWB : Hid (Below w.heap.size w W) := by rw [hW]; exact (Below.refl _ _).alloc (Nat.le_refl _) _
  have HBK : Hid (Blk W B [.int .i64 x, .int .i64 y] 27) := by rw [hW, hB]; exact Blk.new _ _ _
  rw [← hW, ← hB]
  clear hW hB
  have HB0 := hid (Below.refl W.heap.size W)
  have HI0 : Hid (∀ i, i < 0 → cs.getD i (0, 0) ≠ (x, y)) := fun i hi => by omega
  go_loopw [5] (fun iv wr => ∃ k, iv = .int .i64 ((k : Nat) : Int) ∧ k ≤ N ∧ Hid (Below W.heap.size W wr) ∧ Hid (∀ i, i < k → cs.getD i (0, 0) ≠ (x, y))) (fun iv _ => N - (intOf iv).toNat)
  case atStart => exact ⟨0, rfl, by omega, HB0, HI0⟩
  case round =>
    clear HB0 HI0
    obtain ⟨k, rfl, hk, HB1, HI⟩ := hrel
    have HBW := hid (HWB.out.trans (HB1.out.mono HWB.out.size))
    by_cases hl : k < N
    · have hl' : (k : Int) < (N : Int) := by omega
      have hk0 : (0 : Int) ≤ (k : Int) := Int.natCast_nonneg _
      obtain ⟨sb, so, rfl, d0, d1⟩ := (HH.out wr HBW.out).at (i := k) (by rw [← HL.out]; exact hl)
      have HA1 := hid (HA.out k hl)
      have HIn : Hid (cs.getD k (0, 0) ≠ (x, y) → ∀ i, i < k + 1 → cs.getD i (0, 0) ≠ (x, y)) := fun h i hi => by
        rcases Nat.lt_or_ge i k with h1 | h1
        · exact HI.out i h1
        · obtain rfl : i = k := by omega
          exact h
      generalize cs.getD k (0, 0) = z at *
      obtain ⟨z1, z2⟩ := z
      simp only at d0 d1
      have g0 : wr.cell? ⟨B, 0, none⟩ = some (.int .i64 x) := (HBK.out.below HB1.out HBK.out.lt).cell 0
      have g1 : wr.cell? ⟨B, 1, none⟩ = some (.int .i64 y) := (HBK.out.below HB1.out HBK.out.lt).cell 1
      by_cases he : (z1, z2) = (x, y)
      · have e1 : sameC z1 z2 x y = true := decide_eq_true he
        have hr := HA1.out he
        subst hr
        go_upto_region 4 with fail
        go_still (by kernel_rfl)
        go_wp2
        go_ret
        exact ⟨rfl, below_drew HBW.out⟩
      · have e1 : sameC z1 z2 x y = false := decide_eq_false he
        have HI2 := hid (HIn.out he)
        go_upto_region 4 with fail
        go_still (by kernel_rfl)
        go_wp2
        have HBd : Hid (Below W.heap.size W { heap := wr.heap, tape := wr.tape, drawn := wr.drawn + 1, os := wr.os, output := wr.output }) := below_drew HB1.out
        go_roundw
        case rel => exact ⟨k + 1, rfl, by omega, HBd, HI2⟩
        case measure => simp [intOf]; omega
    · obtain rfl : k = N := by omega
      have hl' : ((k : Int) < (k : Int)) = False := by simp
      have hr := HB.out HI.out
      subst hr
      go_wp2
      go_ret
      exact ⟨rfl, HBW.out⟩
def few (m : Mp) (n : Nat) : Bool := decide (m.ts.length ≤ 1000) && decide (m.os.length ≤ 1000) && decide (n ≤ 300)
set_option maxHeartbeats 1000000 in
theorem few_any (a b : Int) (p q r : Option Addr) (M N K c d e : Nat) (w : World) : Calls Try.prog 9 #[.agg #[.int .i64 a, .int .i64 b, .slice p M c, .slice q N d], .slice r K e] w fun e w' => Out w (.bool (decide (M ≤ 1000) && decide (N ≤ 1000) && decide (K ≤ 300))) e w' := by
  unfold Out
  by_cases h1 : M ≤ 1000
  · have g1 : (M : Int) ≤ 1000 := by omega
    by_cases h2 : N ≤ 1000
    · have g2 : (N : Int) ≤ 1000 := by omega
      go_enter Try.func9, Try.ntmps9
      go_wp2
      go_ret
      exact ⟨by simp [h1, h2]; omega, (Below.refl _ _).alloc (Nat.le_refl _) _⟩
    · have g2 : ((N : Int) ≤ 1000) = False := by simp; omega
      go_enter Try.func9, Try.ntmps9
      go_wp2
      go_ret
      exact ⟨by simp [h1, h2], (Below.refl _ _).alloc (Nat.le_refl _) _⟩
  · have g1 : ((M : Int) ≤ 1000) = False := by simp; omega
    go_enter Try.func9, Try.ntmps9
    go_wp2
    go_ret
    exact ⟨by simp [h1], (Below.refl _ _).alloc (Nat.le_refl _) _⟩
end Go.Proofs.Ytemcbonmlmobkaa
