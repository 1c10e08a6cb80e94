/- Two rows of the same numbers, and rows of the call's own whose cells are turned. -/
import Derived.Test.YtgkjlfpkhpnpfaaList
import Derived.Test.YtgkjlfpkhpnpfaaOpen4
namespace Go.Proofs.Ytgkjlfpkhpnpfaa
open Go.RowKit
set_option maxRecDepth 20000 in
set_option maxHeartbeats 4000000 in
theorem sameInts_any (xs : List Int) (p q : Option Addr) (N cap cap' : Nat) (w : World) (h : IntsAt w (.slice p N cap) xs) (h' : IntsAt w (.slice q N cap') xs) (hN : N ≤ 1000000) : Calls Try.prog 12 #[.slice p N cap, .slice q N cap'] w fun e w' => Out w (.bool true) e w' := by
  unfold Out
  have H0 := hid h
  have H1 := hid h'
  have hN' : (N : Int) ≤ 1000000 := by omega
  clear h h' hN
  go_enter Try.func12, Try.ntmps12
  go_wp2_with fail
  go_loopw [5] (fun iv wr => ∃ i : Nat, iv = .int .i64 (i : Int) ∧ i ≤ N ∧ Hid (Below w.heap.size w wr)) (fun iv _ => N - (intOf iv).toNat)
  case atStart => exact ⟨0, rfl, by omega, Below.refl _ _⟩
  case round =>
    obtain ⟨i, rfl, hi, HB⟩ := hrel
    by_cases hlt : i < N
    · obtain ⟨g, o, rfl, hc⟩ := H0.out.pos i hlt
      obtain ⟨g', o', rfl, hc'⟩ := H1.out.pos i hlt
      have hc := hc i hlt
      have hc' := hc' i hlt
      have c0 : wr.cell? ⟨g, o + i, none⟩ = some (.int .i64 (xs.getD i 0)) := by rw [HB.out.cell (p := ⟨g, o + i, none⟩) (lt_of_cell hc)]; exact hc
      have c1 : wr.cell? ⟨g', o' + i, none⟩ = some (.int .i64 (xs.getD i 0)) := by rw [HB.out.cell (p := ⟨g', o' + i, none⟩) (lt_of_cell hc')]; exact hc'
      have e2 : (i : Int) < (N : Int) := by omega
      have e3 : (0 : Int) ≤ (i : Int) := by omega
      clear hc hc'
      generalize xs.getD i 0 = X at *
      go_upto_region 6 with fail
      go_quiet (fail)
      all_goals go_wp2
      all_goals exact ⟨⟨i + 1, by simp, by omega, Below.drewN HB.out _⟩, by simp [intOf]; omega⟩
    · obtain rfl : i = N := by omega
      go_wp2
      go_ret
      exact ⟨rfl, HB.out⟩
/-- The block of a row of the call's own. -/
theorem OwnI.blk {w : World} {base : Nat} {p : Option Addr} {n cap : Nat} {xs : List Int} (h : OwnI w base (.slice p n cap) xs) (hne : 0 < n) : ∃ g l, p = some ⟨g, 0, none⟩ ∧ Blk w g l 3 ∧ n ≤ l.length ∧ base ≤ g := by
  obtain ⟨_, ⟨e, hn⟩ | ⟨g, cap', cur, e, hg, hh, hc, hm, hcs, ht⟩⟩ := h
  · simp only [Value.slice.injEq] at e
    omega
  · simp only [Value.slice.injEq] at e
    obtain ⟨rfl, rfl, rfl⟩ := e
    refine ⟨g, cur.toList, rfl, ?_, ?_, hg⟩
    · unfold Blk
      exact hh
    · have h1 : (cur.toList.take (xs.length * 1)).length = (xs.map I).length := by rw [ht]
      rw [List.length_take, List.length_map] at h1
      omega
theorem Turn.refl (b : Nat) (w : World) : Turn b w w := ⟨rfl, rfl, rfl, rfl, fun _ _ => rfl⟩
theorem Turn.trans {b : Nat} {u v w : World} (h : Turn b u v) (k : Turn b v w) : Turn b u w := ⟨k.os.trans h.os, k.tape.trans h.tape, k.output.trans h.output, k.size.trans h.size, fun i hi => (k.block i hi).trans (h.block i hi)⟩
theorem FieldAt.turn {w w' : World} {base b : Nat} {v : Value} {m : Mp} {bl gs : List Cl} {f : Cl → Option Nat} (h : FieldAt w base v m bl gs f) (ht : Turn b w w') (hb : b < base) : FieldAt w' base v m bl gs f := by
  obtain ⟨fb, bf, bn, rfl, hl, h1, h2, h3⟩ := h
  refine ⟨fb, bf, bn, rfl, hl, ?_, h2.keep (ht.block bf (by omega)), h3.keep (ht.block bn (by omega))⟩
  unfold Blk at h1 ⊢
  rw [ht.block fb (by omega)]
  exact h1
theorem Blk.turn {w w' : World} {b g : Nat} {l : List Value} {t : TypeId} (h : Blk w g l t) (ht : Turn b w w') (hb : g ≠ b) : Blk w' g l t := by
  unfold Blk at h ⊢
  rw [ht.block g hb]
  exact h
end Go.Proofs.Ytgkjlfpkhpnpfaa
