/- The walk of the law RosterFull. -/
import Derived.Test.YtdagkeklfhlcnaaFrom
import Derived.Test.YtdagkeklfhlcnaaNeverWalk
namespace Go.Proofs.Ytdagkeklfhlcnaa
open Go.RowKit
/-- An entity was laid into a block of its own, and lies there as long as nothing that lay there is written. -/
theorem ent_box (w : World) (z0 z1 z2 z3 z4 z5 z6 z7 z8 z9 z10 : Int) (W : World) (B : Nat) (hW : W = w.alloc (.cells #[Value.int .i64 z0, .int .i64 z1, .int .i64 z2, .int .i64 z3, .int .i64 z4, .int .i64 z5, .int .i64 z6, .int .i64 z7, .int .i64 z8, .int .i64 z9, .int .i64 z10] 32)) (hB : B = w.heap.size) :
    (∀ w', Below W.heap.size W w' → w'.cell? ⟨B, 0, none⟩ = some (.int .i64 z0) ∧ w'.cell? ⟨B, 1, none⟩ = some (.int .i64 z1) ∧ w'.cell? ⟨B, 2, none⟩ = some (.int .i64 z2) ∧ w'.cell? ⟨B, 3, none⟩ = some (.int .i64 z3) ∧ w'.cell? ⟨B, 4, none⟩ = some (.int .i64 z4) ∧ w'.cell? ⟨B, 5, none⟩ = some (.int .i64 z5) ∧ w'.cell? ⟨B, 6, none⟩ = some (.int .i64 z6) ∧ w'.cell? ⟨B, 7, none⟩ = some (.int .i64 z7) ∧ w'.cell? ⟨B, 8, none⟩ = some (.int .i64 z8) ∧ w'.cell? ⟨B, 9, none⟩ = some (.int .i64 z9) ∧ w'.cell? ⟨B, 10, none⟩ = some (.int .i64 z10)) ∧ (∀ w', Below W.heap.size W w' → Below w.heap.size w w') := by
  have hsz : W.heap.size = B + 1 := by rw [hW, hB]; simp
  have hbe : Below w.heap.size w W := by rw [hW]; exact (Below.refl _ _).alloc (Nat.le_refl _) _
  have b1 : Blk W B [.int .i64 z0, .int .i64 z1, .int .i64 z2, .int .i64 z3, .int .i64 z4, .int .i64 z5, .int .i64 z6, .int .i64 z7, .int .i64 z8, .int .i64 z9, .int .i64 z10] 32 := by rw [hW, hB]; exact Blk.new _ _ _
  refine ⟨fun w' h => ?_, fun w' h => hbe.trans (h.mono (by omega))⟩
  have c := b1.below h (by omega)
  exact ⟨c.cell 0, c.cell 1, c.cell 2, c.cell 3, c.cell 4, c.cell 5, c.cell 6, c.cell 7, c.cell 8, c.cell 9, c.cell 10⟩
/-- The IDs are 1, 2, .. -/
def Rise (l : List (List Int)) : Prop := ∀ j, j < l.length → (l.getD j []).getD 0 0 = (j : Int) + 1
theorem Rise.put {l : List (List Int)} (h : Rise l) (e : List Int) (he : e.getD 0 0 = (l.length : Int) + 1) : Rise (l ++ [e]) := by
  intro j hj
  rcases Nat.lt_or_ge j l.length with h1 | h1
  · have e1 : (l ++ [e]).getD j [] = l.getD j [] := by simp [List.getD, List.getElem?_append_left h1]
    rw [e1]; exact h j h1
  · have : j = l.length := by simp at hj; omega
    subst this
    have e1 : (l ++ [e]).getD l.length [] = e := by simp [List.getD]
    rw [e1]; exact he
theorem Rise.find {l : List (List Int)} (h : Rise l) (k : Nat) (hk : k < l.length) : fnd l ((k : Int) + 1) 0 = (k : Int) := by
  rw [fnd_at l _ 0 k hk (fun j hj => by rw [h j (by omega)]; omega) (h k hk)]
  omega
set_option maxRecDepth 20000 in
set_option maxHeartbeats 8000000 in
theorem full_walk (e : List Int) (he : e.length = 11) (n : Nat) (hn : n < 256) (w : World) : Calls Try.prog 5 #[E e, .int .u8 (n : Int)] w fun r w' => OutT w r w' := by
  obtain ⟨z0, z1, z2, z3, z4, z5, z6, z7, z8, z9, z10, rfl⟩ := eleven he
  have h7 : Hid (∀ W, Calls Try.prog 7 #[] W fun r w' => Out W (.bool true) r w') := awake_any
  have h8 := hid new_any
  have h14 : Hid (∀ b l (past : Int) W, Tb W b l past → 0 ≤ past ∧ past < 2147483646 → l.length < 40 → Calls Try.prog 14 #[P b, E [z0, z1, z2, z3, z4, z5, z6, z7, z8, z9, z10]] W fun r w' => OutIns W b l past [z0, z1, z2, z3, z4, z5, z6, z7, z8, z9, z10] r w') := fun b l past W h hp hl => ins_any b l past _ rfl W h hp hl
  have h14f : Hid (∀ b l (past : Int) W, Tb W b l past → 0 ≤ past ∧ past < 2147483647 → (l.length = 40 ∨ past = 2147483646) → Calls Try.prog 14 #[P b, E [z0, z1, z2, z3, z4, z5, z6, z7, z8, z9, z10]] W fun r w' => OutFull W r w') := fun b l past W h hp hl => insFull_any b l past _ rfl W h hp hl
  have h15 : Hid (∀ b l (past : Int) (k : Nat) W, Tb W b l past → Rise l → k < l.length → Calls Try.prog 15 #[P b, .int .i64 ((k : Int) + 1)] W fun r w' => OutRem W b (l.eraseIdx k) past r w') := fun b l past k W h hr hk => rem_any b l past _ k W h (hr.find k hk) hk
  have h16 : Hid (∀ W : World, Calls Try.prog 16 #[.slice none 0 0, .int .i64 2147483646] W fun r w' => r = .returned (.tuple #[P W.heap.size, .int .i64 0]) ∧ Tb w' W.heap.size [] 2147483645 ∧ Below W.heap.size W w') := fun W => fromNil_any 2147483646 (by omega) W
  have HPUT : Hid (∀ l : List (List Int), Rise l → Rise (l ++ [[(l.length : Int) + 1, z1, z2, z3, z4, z5, z6, z7, z8, z9, z10]])) := fun l h => h.put _ rfl
  unfold OutT
  unfold Out OutIns OutFull OutRem E P at *
  simp only [List.map_cons, List.map_nil, I, List.set_cons_zero] at h14 h14f ⊢
  go_enter Try.func5, Try.ntmps5
  go_upto_region 1 with fail
  obtain ⟨W, hW⟩ : ∃ W, W = w.alloc (.cells #[Value.int .i64 z0, .int .i64 z1, .int .i64 z2, .int .i64 z3, .int .i64 z4, .int .i64 z5, .int .i64 z6, .int .i64 z7, .int .i64 z8, .int .i64 z9, .int .i64 z10] 32) := ⟨_, rfl⟩
  obtain ⟨B, hB⟩ : ∃ B, B = w.heap.size := ⟨_, rfl⟩
  rw [← hW, ← hB]
  obtain ⟨hk, hbe⟩ := ent_box w z0 z1 z2 z3 z4 z5 z6 z7 z8 z9 z10 W B hW hB
  have HK := hid hk
  have HBE := hid hbe
  clear hW hB hk hbe
  go_wp2_with fail
  refine Calls.mono (h7.out _) ?_
  rintro e w1 ⟨rfl, hb1⟩
  have HB1 := hid hb1
  clear hb1
  go_wp2_with fail
  refine Calls.mono (h8.out _) ?_
  rintro e w2 ⟨rfl, ht2, hb2⟩
  obtain ⟨g, hg⟩ : ∃ g, w1.heap.size = g := ⟨_, rfl⟩
  have HG : Hid (W.heap.size ≤ g) := by rw [← hg]; exact HB1.out.size
  rw [hg] at ht2 ⊢
  have HT2 := hid ht2
  have HB2 := hid (HB1.out.trans (hb2.mono HB1.out.size))
  clear ht2 hb2 hg HB1
  go_wp2_with fail
  go_loopw [6] (fun iv wr => ∃ (i : Nat) (l : List (List Int)), i ≤ 40 ∧ iv = .int .i64 (i : Int) ∧ Hid (l.length = i) ∧ Hid (Rise l) ∧ Hid (Tb wr g l (i : Int)) ∧ Hid (Below W.heap.size W wr)) (fun iv _ => 40 - (intOf iv).toNat)
  case atStart => exact ⟨0, [], by omega, rfl, rfl, (fun j hj => by simp at hj), HT2, HB2⟩
  case round =>
    clear HT2 HB2
    obtain ⟨i, l, hi, rfl, HLN, HRI, HT, HBW⟩ := hrel
    obtain ⟨c0, c1, c2, c3, c4, c5, c6, c7, c8, c9, c10⟩ := HK.out wr HBW.out
    by_cases hl : i < 40
    · have hl' : (i : Int) < 40 := by omega
      go_wp2_with fail
      refine Calls.mono (h14.out g l i wr HT.out (by omega) (by have := HLN.out; omega)) ?_
      rintro e w3 ⟨rfl, ht3, ho3⟩
      have HT3 := hid ht3
      have HB3 := hid (Only.below HBW.out ho3 HG.out HBW.out.size)
      have HR3 := hid (HPUT.out l HRI.out)
      rw [HLN.out] at HR3
      have HL3 : Hid ((l ++ [[(i : Int) + 1, z1, z2, z3, z4, z5, z6, z7, z8, z9, z10]]).length = i + 1) := by show _ = _; rw [List.length_append, HLN.out]; rfl
      clear ht3 ho3 c0 c1 c2 c3 c4 c5 c6 c7 c8 c9 c10
      go_wp2
      go_roundw
      case rel => exact ⟨i + 1, _, by omega, by simp, HL3, HR3, by simpa using HT3, HB3⟩
      case measure => simp [intOf]; omega
    · obtain rfl : i = 40 := by omega
      rw [show ((40 : Nat) : Int) = 40 from rfl] at HT ⊢
      go_wp2_with fail
      refine Calls.mono (h14f.out g l 40 wr HT.out (by omega) (Or.inl HLN.out)) ?_
      rintro e w3 ⟨rfl, hb3⟩
      have HT3 := hid (HT.out.below hb3 HT.out.lt)
      have HB3 := hid (HBW.out.trans (hb3.mono HBW.out.size))
      clear hb3 c0 c1 c2 c3 c4 c5 c6 c7 c8 c9 c10
      obtain ⟨k, hk⟩ : ∃ k, k = n % 40 := ⟨_, rfl⟩
      have hk40 : k < 40 := by omega
      have n0 : (0 : Int) ≤ (n : Int) := by omega
      have e1 : (n : Int).tmod 40 = (k : Int) := by rw [Int.tmod_eq_emod_of_nonneg n0]; omega
      have e2 : (n : Int) % 40 = (k : Int) := by omega
      have e3 : (1 : Int) + (k : Int) = (k : Int) + 1 := by omega
      have H15 := hid (h15.out g l 40 k w3 HT3.out HRI.out (by have := HLN.out; omega))
      rw [← e3] at H15
      clear hk e3
      go_wp2_with fail
      refine Calls.mono H15.out ?_
      rintro e w4 ⟨rfl, ht4, ho4⟩
      have HT4 := hid ht4
      have HB4 := hid (Only.below HB3.out ho4 HG.out HB3.out.size)
      have HL4 : Hid ((l.eraseIdx k).length = 39) := by
        show _ = _
        have := HLN.out
        rw [List.length_eraseIdx_of_lt (by omega)]; omega
      clear ht4 ho4
      obtain ⟨c0, c1, c2, c3, c4, c5, c6, c7, c8, c9, c10⟩ := HK.out w4 HB4.out
      go_wp2_with fail
      refine Calls.mono (h14.out g _ 40 w4 HT4.out (by omega) (by have := HL4.out; omega)) ?_
      rintro e w5 ⟨rfl, ht5, ho5⟩
      have HB5 := hid (Only.below HB4.out ho5 HG.out HB4.out.size)
      clear ht5 ho5 c0 c1 c2 c3 c4 c5 c6 c7 c8 c9 c10
      go_wp2_with fail
      refine Calls.mono (h16.out w5) ?_
      rintro e w6 ⟨rfl, ht6, hb6⟩
      obtain ⟨u, hu⟩ : ∃ u, w5.heap.size = u := ⟨_, rfl⟩
      have HU : Hid (W.heap.size ≤ u) := by rw [← hu]; exact HB5.out.size
      rw [hu] at ht6 ⊢
      have HT6 := hid ht6
      have HB6 := hid (HB5.out.trans (hb6.mono HB5.out.size))
      clear ht6 hb6 hu
      obtain ⟨c0, c1, c2, c3, c4, c5, c6, c7, c8, c9, c10⟩ := HK.out w6 HB6.out
      go_wp2_with fail
      refine Calls.mono (h14.out u [] 2147483645 w6 HT6.out (by omega) (by simp)) ?_
      rintro e w7 ⟨rfl, ht7, ho7⟩
      have HT7 := hid ht7
      have HB7 := hid (Only.below HB6.out ho7 HU.out HB6.out.size)
      rw [show (2147483645 : Int) + 1 = 2147483646 from rfl] at HT7 ⊢
      clear ht7 ho7 c0 c1 c2 c3 c4 c5 c6 c7 c8 c9 c10
      obtain ⟨c0, c1, c2, c3, c4, c5, c6, c7, c8, c9, c10⟩ := HK.out w7 HB7.out
      go_wp2_with fail
      refine Calls.mono (h14f.out u _ 2147483646 w7 HT7.out (by omega) (Or.inr rfl)) ?_
      rintro e w8 ⟨rfl, hb8⟩
      have HB8 := hid (HB7.out.trans (hb8.mono HB7.out.size))
      clear hb8
      go_wp2
      go_ret
      exact ⟨rfl, HBE.out _ HB8.out⟩
end Go.Proofs.Ytdagkeklfhlcnaa
