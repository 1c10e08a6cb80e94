/- The IDs of an owner's entities, by the reference. -/
import Derived.Test.YtdagkeklfhlcnaaOfs
namespace Go.Proofs.Ytdagkeklfhlcnaa
open Go.RowKit
set_option maxRecDepth 20000 in
set_option maxHeartbeats 4000000 in
theorem rof_any (r : Nat) (l : List (List Int)) (nx o : Int) (w : World) (h : Rf w r l nx) (hs : l.length ≤ 1000000) : Calls Try.prog 26 #[P r, .int .i64 o] w fun q w' => OutInts w (ofL l o) q w' := by
  have HRL := hid h.lt
  obtain ⟨v, hb, ho⟩ := h
  obtain ⟨p, cap, rfl⟩ := ho.form
  obtain ⟨N, hN⟩ : ∃ N, N = l.length := ⟨_, rfl⟩
  have HN := hid (fun (_ : Nat) => hN)
  rw [← hN] at hb ho hs
  have HRB := hid hb
  have HOO := hid ho
  have HS := hid hs
  have hs' : (N : Int) ≤ 1000000 := by omega
  have HB1 : Hid (Below w.heap.size w w) := Below.refl _ _
  unfold OutInts
  unfold P at *
  clear hb ho hN hs
  go_enter Try.func26, Try.ntmps26
  go_wp2_with fail
  go_loopw [6, 5] (fun iv lv wr => ∃ i : Nat, i ≤ N ∧ iv = .int .i64 (i : Int) ∧ Hid (OwnI wr w.heap.size lv (ofL (l.take i) o)) ∧ Hid (Below w.heap.size w wr)) (fun iv _ _ => N - (intOf iv).toNat)
  case atStart => exact ⟨0, by omega, rfl, OwnI.nil _ _, HB1⟩
  case round =>
    clear HB1
    obtain ⟨i, hi, rfl, HO, HB⟩ := hrel
    by_cases hl : i < N
    · have hl' : (i : Int) < (N : Int) := by omega
      have hl0 : (0 : Int) ≤ (i : Int) := by omega
      have d0 : wr.cell? ⟨r, 0, none⟩ = some (.slice p N cap) := (HRB.out.below HB.out HRL.out).cell 0
      obtain ⟨u, z0, z1, z2, z3, z4, z5, z6, z7, z8, z9, z10, rfl, -, hu, he, hc⟩ := HOO.out.nums i hl
      obtain ⟨c0, c1, c2, c3, c4, c5, c6, c7, c8, c9, c10⟩ := hc wr (HB.out.block u hu)
      clear hu
      have HE : Hid ((l.getD i []) = [z0, z1, z2, z3, z4, z5, z6, z7, z8, z9, z10]) := he
      have HST := hid (ofL_take l o i (by have := HN.out 0; omega))
      rw [HE.out] at HST
      have HLN : Hid ((ofL (l.take i) o).length ≤ 1000000) := by
        have h1 := ofL_len (l.take i) o
        have h2 := HN.out 0
        have h3 := HS.out
        rw [List.length_take] at h1
        exact hid (by omega)
      clear hc he
      by_cases hz : z1 = o
      · subst hz
        have HST2 : Hid (ofL (l.take (i + 1)) z1 = ofL (l.take i) z1 ++ [z0]) := HST.out.trans (if_pos rfl)
        have hzz : (z1 == z1) = true := by simp
        have HOA : Hid (OwnI (wr.alloc (.cells #[Value.int .i64 z0] 3)) w.heap.size u5 (ofL (l.take i) z1)) := (HO.out.keep fun k _ hk => Below.heap_alloc _ _ _ hk)
        have HBA : Hid (Below w.heap.size w (wr.alloc (.cells #[Value.int .i64 z0] 3))) := HB.out.alloc HB.out.size _
        have HNB : Hid (Blk (wr.alloc (.cells #[Value.int .i64 z0] 3)) wr.heap.size [.int .i64 z0] 3) := Blk.new _ _ _
        rw [show wr.heap.size = wr.heap.size by simp] at HNB
        generalize ofL (l.take i) z1 = xs at *
        clear HO HST
        go_wp2_with (first
          | ((with_reducible refine wpL_appendI w.heap.size u5 xs z0 (wr.heap.size) ?_ ?_ HOA.out HNB.out HLN.out HBA.out.size ?_); (rfl); (rfl); (intro v5 w5 ho5 hb5); (have HO5 := hid ho5; have HB5 := hid (HBA.out.trans hb5); clear ho5 hb5); (simp only [Act.put, List.setIfInBounds_toArray, List.set_cons_zero, List.set_cons_succ])))
        go_roundw
        case rel => exact ⟨i + 1, by omega, by simp, by rw [HST2.out]; exact HO5, HB5⟩
        case measure => simp [intOf]; omega
      · have HST2 : Hid (ofL (l.take (i + 1)) o = ofL (l.take i) o) := HST.out.trans (if_neg hz)
        have hzz : (z1 == o) = false := by simpa using hz
        have HOA : Hid (OwnI wr w.heap.size u5 (ofL (l.take i) o)) := (HO.out.keep fun k _ hk => rfl)
        have HBA : Hid (Below w.heap.size w wr) := HB.out
        clear hz HST
        go_wp2
        go_roundw
        case rel => exact ⟨i + 1, by omega, by simp, by rw [HST2.out]; exact HOA, HBA⟩
        case measure => simp [intOf]; omega
    · obtain rfl : i = N := by omega
      have hl' : ((i : Int) < (i : Int)) = False := by simp
      have d0 : wr.cell? ⟨r, 0, none⟩ = some (.slice p i cap) := (HRB.out.below HB.out HRL.out).cell 0
      have HT : Hid (l.take i = l) := by rw [HN.out 0]; exact hid List.take_length
      go_wp2
      go_ret
      exact ⟨_, rfl, by rw [HT.out] at HO; exact HO.out, HB.out⟩
end Go.Proofs.Ytdagkeklfhlcnaa
