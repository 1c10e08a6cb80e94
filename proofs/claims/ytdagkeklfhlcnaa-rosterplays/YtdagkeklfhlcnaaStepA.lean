/- One call of the script: the law's step. -/
import Derived.Test.YtdagkeklfhlcnaaRof
import Derived.Test.YtdagkeklfhlcnaaSam
namespace Go.Proofs.Ytdagkeklfhlcnaa
open Go.RowKit
/-- A world in which block b holds the cells l. -/
structure Bx (b : Nat) (l : List Value) where
  w : World
  h : Blk w b l 34
/-- A block that is newer than the table and its row is none of them. -/
theorem rf_blk {w w' : World} {r B : Nat} {l : List (List Int)} {nx : Int} {cs : List Value} {t : TypeId} (h : Rf w r l nx) (hk : Rkeep r w w') (hb : Blk w B cs t) (hr : r < B) (hn : ∀ v n, Blk w r [v, n] 38 → v.ownBlock ≠ some B) : Blk w' B cs t := by
  obtain ⟨v, h1, h2⟩ := h
  have := hb.lt
  unfold Blk at *
  rw [hk B v _ h1 (by omega) (hn v _ h1) this]; exact hb
/-- The law's step answers true and keeps the two tables alike. -/
def OutStep (w : World) (g r : Nat) (past : Int) (e : Ending) (w' : World) : Prop := e = .returned (.bool true) ∧ ∃ (l' : List (List Int)) (p' : Int), 0 ≤ p' ∧ p' ≤ past + 1 ∧ Tb w' g l' p' ∧ Rf w' r l' (p' + 1) ∧ Below g w w'
set_option maxRecDepth 20000 in
set_option maxHeartbeats 8000000 in
theorem step1_full (g r : Nat) (l : List (List Int)) (past id : Int) (z0 z1 z2 z3 z4 z5 z6 z7 z8 z9 z10 : Int) (w : World) (hT : Tb w g l past) (hR : Rf w r l (past + 1)) (hgr : g < r) (hp : 0 ≤ past ∧ past < 1000) (hl : l.length = 40) : Calls Try.prog 10 #[P g, P r, .agg #[.int .i64 1, .int .i64 id, .int .i64 z0, .int .i64 z1, .int .i64 z2, .int .i64 z3, .int .i64 z4, .int .i64 z5, .int .i64 z6, .int .i64 z7, .int .i64 z8, .int .i64 z9, .int .i64 z10]] w fun e w' => OutStep w g r past e w' := by
  have hn := hT.few
  obtain ⟨W, hW⟩ : ∃ W, W = w.alloc (.cells #[Value.int .i64 1, .int .i64 id, .int .i64 z0, .int .i64 z1, .int .i64 z2, .int .i64 z3, .int .i64 z4, .int .i64 z5, .int .i64 z6, .int .i64 z7, .int .i64 z8, .int .i64 z9, .int .i64 z10] 34) := ⟨_, rfl⟩
  obtain ⟨B, hB⟩ : ∃ B, B = w.heap.size := ⟨_, rfl⟩
  have HBW : Hid (Below w.heap.size w W) := by rw [hW]; exact (Below.refl _ _).alloc (Nat.le_refl _) _
  have HQ : Hid (Blk W B [.int .i64 1, .int .i64 id, .int .i64 z0, .int .i64 z1, .int .i64 z2, .int .i64 z3, .int .i64 z4, .int .i64 z5, .int .i64 z6, .int .i64 z7, .int .i64 z8, .int .i64 z9, .int .i64 z10] 34) := by rw [hW, hB]; exact Blk.new _ _ _
  have HT : Hid (Tb W g l past) := hT.below HBW.out hT.lt
  have HR : Hid (Rf W r l (past + 1)) := hR.below HBW.out
  have HGR := hid hgr
  have HRB : Hid (r < B) := by rw [hB]; exact hR.lt
  have HGS : Hid (g ≤ w.heap.size) := Nat.le_of_lt hT.lt
  have HP := hid hp
  have HB0 : Hid (Below g w W) := HBW.out.mono HGS.out
  have HNB : Hid (∀ v n, Blk W r [v, n] 38 → v.ownBlock ≠ some B) := fun v n hb e => by
    obtain ⟨v', h1, h2⟩ := hR
    have h3 := Blk.inj (h1.below HBW.out h1.lt) hb
    simp at h3
    rw [← h3.1] at e
    have := (h2.block B e).2
    omega
  have H14 : Hid (Calls Try.prog 14 #[P g, E [z0, z1, z2, z3, z4, z5, z6, z7, z8, z9, z10]] W fun e w' => OutFull W e w') := insFull_any g l past [z0, z1, z2, z3, z4, z5, z6, z7, z8, z9, z10] rfl W HT.out (by omega) (Or.inl hl)
  have H21 : Hid (∀ w1, Rf w1 r l (past + 1) → Calls Try.prog 21 #[P r, E [z0, z1, z2, z3, z4, z5, z6, z7, z8, z9, z10]] w1 fun e w' => OutFull w1 e w') := fun w1 h => rinsFull_any r l (past + 1) [z0, z1, z2, z3, z4, z5, z6, z7, z8, z9, z10] rfl w1 h (by omega) (by omega)
  unfold OutStep
  unfold OutFull P at *
  try unfold E at *
  try simp only [List.map_cons, List.map_nil, I] at *
  clear hT hR hgr hp
  go_enter Try.func10, Try.ntmps10
  go_upto_region 1 with fail
  rw [← hW, ← hB]
  clear hW hB HBW
  have q0 : W.cell? ⟨B, 0, none⟩ = some (.int .i64 1) := HQ.out.cell 0
  have q1 : W.cell? ⟨B, 1, none⟩ = some (.int .i64 id) := HQ.out.cell 1
  have q2 : W.cell? ⟨B, 2, none⟩ = some (.int .i64 z0) := HQ.out.cell 2
  have q3 : W.cell? ⟨B, 3, none⟩ = some (.int .i64 z1) := HQ.out.cell 3
  have q4 : W.cell? ⟨B, 4, none⟩ = some (.int .i64 z2) := HQ.out.cell 4
  have q5 : W.cell? ⟨B, 5, none⟩ = some (.int .i64 z3) := HQ.out.cell 5
  have q6 : W.cell? ⟨B, 6, none⟩ = some (.int .i64 z4) := HQ.out.cell 6
  have q7 : W.cell? ⟨B, 7, none⟩ = some (.int .i64 z5) := HQ.out.cell 7
  have q8 : W.cell? ⟨B, 8, none⟩ = some (.int .i64 z6) := HQ.out.cell 8
  have q9 : W.cell? ⟨B, 9, none⟩ = some (.int .i64 z7) := HQ.out.cell 9
  have q10 : W.cell? ⟨B, 10, none⟩ = some (.int .i64 z8) := HQ.out.cell 10
  have q11 : W.cell? ⟨B, 11, none⟩ = some (.int .i64 z9) := HQ.out.cell 11
  have q12 : W.cell? ⟨B, 12, none⟩ = some (.int .i64 z10) := HQ.out.cell 12
  go_wp2_with fail
  refine Calls.mono H14.out ?_
  rintro e w1 ⟨rfl, hb⟩
  have HT1 := hid (HT.out.below hb HT.out.lt)
  have HR1 := hid (HR.out.below hb)
  have HQ1 := hid (HQ.out.below hb HQ.out.lt)
  have HB1 : Hid (Below g w w1) := HB0.out.trans (hb.mono (Nat.le_of_lt HT.out.lt))
  have hrr : w1.heap[r]? = W.heap[r]? := hb.block r HR.out.lt
  clear hb
  have HNB1 : Hid (∀ v n, Blk w1 r [v, n] 38 → v.ownBlock ≠ some B) := fun v n hb => HNB.out v n (by unfold Blk at *; rw [← hrr]; exact hb)
  clear hrr
  clear q0 q1 q2 q3 q4 q5 q6 q7 q8 q9 q10 q11 q12
  have q0 : w1.cell? ⟨B, 0, none⟩ = some (.int .i64 1) := HQ1.out.cell 0
  have q1 : w1.cell? ⟨B, 1, none⟩ = some (.int .i64 id) := HQ1.out.cell 1
  have q2 : w1.cell? ⟨B, 2, none⟩ = some (.int .i64 z0) := HQ1.out.cell 2
  have q3 : w1.cell? ⟨B, 3, none⟩ = some (.int .i64 z1) := HQ1.out.cell 3
  have q4 : w1.cell? ⟨B, 4, none⟩ = some (.int .i64 z2) := HQ1.out.cell 4
  have q5 : w1.cell? ⟨B, 5, none⟩ = some (.int .i64 z3) := HQ1.out.cell 5
  have q6 : w1.cell? ⟨B, 6, none⟩ = some (.int .i64 z4) := HQ1.out.cell 6
  have q7 : w1.cell? ⟨B, 7, none⟩ = some (.int .i64 z5) := HQ1.out.cell 7
  have q8 : w1.cell? ⟨B, 8, none⟩ = some (.int .i64 z6) := HQ1.out.cell 8
  have q9 : w1.cell? ⟨B, 9, none⟩ = some (.int .i64 z7) := HQ1.out.cell 9
  have q10 : w1.cell? ⟨B, 10, none⟩ = some (.int .i64 z8) := HQ1.out.cell 10
  have q11 : w1.cell? ⟨B, 11, none⟩ = some (.int .i64 z9) := HQ1.out.cell 11
  have q12 : w1.cell? ⟨B, 12, none⟩ = some (.int .i64 z10) := HQ1.out.cell 12
  go_wp2_with fail
  refine Calls.mono (H21.out _ HR1.out) ?_
  rintro e w2 ⟨rfl, hb⟩
  have HR2 := hid (HR1.out.below hb)
  have HT2 := hid (HT1.out.below hb HT1.out.lt)
  have HB2 := hid (HB1.out.trans (hb.mono (Nat.le_of_lt HT1.out.lt)))
  have HQ2 := hid (HQ1.out.below hb HQ1.out.lt)
  clear hb
  clear q0 q1 q2 q3 q4 q5 q6 q7 q8 q9 q10 q11 q12
  go_wp2
  go_ret
  exact ⟨rfl, l, past, HP.out.1, by omega, HT2.out, HR2.out, HB2.out⟩
set_option maxRecDepth 20000 in
set_option maxHeartbeats 8000000 in
theorem step1 (g r : Nat) (l : List (List Int)) (past id : Int) (z0 z1 z2 z3 z4 z5 z6 z7 z8 z9 z10 : Int) (w : World) (hT : Tb w g l past) (hR : Rf w r l (past + 1)) (hgr : g < r) (hp : 0 ≤ past ∧ past < 1000) (hl : l.length < 40) : Calls Try.prog 10 #[P g, P r, .agg #[.int .i64 1, .int .i64 id, .int .i64 z0, .int .i64 z1, .int .i64 z2, .int .i64 z3, .int .i64 z4, .int .i64 z5, .int .i64 z6, .int .i64 z7, .int .i64 z8, .int .i64 z9, .int .i64 z10]] w fun e w' => OutStep w g r past e w' := by
  have hn := hT.few
  obtain ⟨W, hW⟩ : ∃ W, W = w.alloc (.cells #[Value.int .i64 1, .int .i64 id, .int .i64 z0, .int .i64 z1, .int .i64 z2, .int .i64 z3, .int .i64 z4, .int .i64 z5, .int .i64 z6, .int .i64 z7, .int .i64 z8, .int .i64 z9, .int .i64 z10] 34) := ⟨_, rfl⟩
  obtain ⟨B, hB⟩ : ∃ B, B = w.heap.size := ⟨_, rfl⟩
  have HBW : Hid (Below w.heap.size w W) := by rw [hW]; exact (Below.refl _ _).alloc (Nat.le_refl _) _
  have HQ : Hid (Blk W B [.int .i64 1, .int .i64 id, .int .i64 z0, .int .i64 z1, .int .i64 z2, .int .i64 z3, .int .i64 z4, .int .i64 z5, .int .i64 z6, .int .i64 z7, .int .i64 z8, .int .i64 z9, .int .i64 z10] 34) := by rw [hW, hB]; exact Blk.new _ _ _
  have HT : Hid (Tb W g l past) := hT.below HBW.out hT.lt
  have HR : Hid (Rf W r l (past + 1)) := hR.below HBW.out
  have HGR := hid hgr
  have HRB : Hid (r < B) := by rw [hB]; exact hR.lt
  have HGS : Hid (g ≤ w.heap.size) := Nat.le_of_lt hT.lt
  have HP := hid hp
  have HB0 : Hid (Below g w W) := HBW.out.mono HGS.out
  have HNB : Hid (∀ v n, Blk W r [v, n] 38 → v.ownBlock ≠ some B) := fun v n hb e => by
    obtain ⟨v', h1, h2⟩ := hR
    have h3 := Blk.inj (h1.below HBW.out h1.lt) hb
    simp at h3
    rw [← h3.1] at e
    have := (h2.block B e).2
    omega
  have H14 : Hid (Calls Try.prog 14 #[P g, E [z0, z1, z2, z3, z4, z5, z6, z7, z8, z9, z10]] W fun e w' => OutIns W g l past [z0, z1, z2, z3, z4, z5, z6, z7, z8, z9, z10] e w') := ins_any g l past [z0, z1, z2, z3, z4, z5, z6, z7, z8, z9, z10] rfl W HT.out (by omega) hl
  have H21 : Hid (∀ w1, Rf w1 r l (past + 1) → Calls Try.prog 21 #[P r, E [z0, z1, z2, z3, z4, z5, z6, z7, z8, z9, z10]] w1 fun e w' => OutRIns w1 r l (past + 1) [z0, z1, z2, z3, z4, z5, z6, z7, z8, z9, z10] e w') := fun w1 h => rins_any r l (past + 1) [z0, z1, z2, z3, z4, z5, z6, z7, z8, z9, z10] rfl w1 h hl (by omega)
  unfold OutStep
  unfold OutIns OutRIns P at *
  try unfold E at *
  try simp only [List.map_cons, List.map_nil, I] at *
  clear hT hR hgr hp
  go_enter Try.func10, Try.ntmps10
  go_upto_region 1 with fail
  rw [← hW, ← hB]
  clear hW hB HBW
  have q0 : W.cell? ⟨B, 0, none⟩ = some (.int .i64 1) := HQ.out.cell 0
  have q1 : W.cell? ⟨B, 1, none⟩ = some (.int .i64 id) := HQ.out.cell 1
  have q2 : W.cell? ⟨B, 2, none⟩ = some (.int .i64 z0) := HQ.out.cell 2
  have q3 : W.cell? ⟨B, 3, none⟩ = some (.int .i64 z1) := HQ.out.cell 3
  have q4 : W.cell? ⟨B, 4, none⟩ = some (.int .i64 z2) := HQ.out.cell 4
  have q5 : W.cell? ⟨B, 5, none⟩ = some (.int .i64 z3) := HQ.out.cell 5
  have q6 : W.cell? ⟨B, 6, none⟩ = some (.int .i64 z4) := HQ.out.cell 6
  have q7 : W.cell? ⟨B, 7, none⟩ = some (.int .i64 z5) := HQ.out.cell 7
  have q8 : W.cell? ⟨B, 8, none⟩ = some (.int .i64 z6) := HQ.out.cell 8
  have q9 : W.cell? ⟨B, 9, none⟩ = some (.int .i64 z7) := HQ.out.cell 9
  have q10 : W.cell? ⟨B, 10, none⟩ = some (.int .i64 z8) := HQ.out.cell 10
  have q11 : W.cell? ⟨B, 11, none⟩ = some (.int .i64 z9) := HQ.out.cell 11
  have q12 : W.cell? ⟨B, 12, none⟩ = some (.int .i64 z10) := HQ.out.cell 12
  go_wp2_with fail
  refine Calls.mono H14.out ?_
  rintro e w1 ⟨rfl, ht, ho⟩
  have HT1 := hid ht
  have HR1 := hid (ho.rf HR.out HGR.out)
  have HQ1 := hid (ho.blk HQ.out (show B ≠ g by have := HGR.out; have := HRB.out; omega))
  have HB1 : Hid (Below g w w1) := Only.below HB0.out ho (Nat.le_refl _) (Nat.le_of_lt HT.out.lt)
  have hrr : w1.heap[r]? = W.heap[r]? := ho.block r (by have := HGR.out; omega) HR.out.lt
  clear ht ho
  have HNB1 : Hid (∀ v n, Blk w1 r [v, n] 38 → v.ownBlock ≠ some B) := fun v n hb => HNB.out v n (by unfold Blk at *; rw [← hrr]; exact hb)
  clear hrr
  clear q0 q1 q2 q3 q4 q5 q6 q7 q8 q9 q10 q11 q12
  have q0 : w1.cell? ⟨B, 0, none⟩ = some (.int .i64 1) := HQ1.out.cell 0
  have q1 : w1.cell? ⟨B, 1, none⟩ = some (.int .i64 id) := HQ1.out.cell 1
  have q2 : w1.cell? ⟨B, 2, none⟩ = some (.int .i64 z0) := HQ1.out.cell 2
  have q3 : w1.cell? ⟨B, 3, none⟩ = some (.int .i64 z1) := HQ1.out.cell 3
  have q4 : w1.cell? ⟨B, 4, none⟩ = some (.int .i64 z2) := HQ1.out.cell 4
  have q5 : w1.cell? ⟨B, 5, none⟩ = some (.int .i64 z3) := HQ1.out.cell 5
  have q6 : w1.cell? ⟨B, 6, none⟩ = some (.int .i64 z4) := HQ1.out.cell 6
  have q7 : w1.cell? ⟨B, 7, none⟩ = some (.int .i64 z5) := HQ1.out.cell 7
  have q8 : w1.cell? ⟨B, 8, none⟩ = some (.int .i64 z6) := HQ1.out.cell 8
  have q9 : w1.cell? ⟨B, 9, none⟩ = some (.int .i64 z7) := HQ1.out.cell 9
  have q10 : w1.cell? ⟨B, 10, none⟩ = some (.int .i64 z8) := HQ1.out.cell 10
  have q11 : w1.cell? ⟨B, 11, none⟩ = some (.int .i64 z9) := HQ1.out.cell 11
  have q12 : w1.cell? ⟨B, 12, none⟩ = some (.int .i64 z10) := HQ1.out.cell 12
  go_wp2_with fail
  refine Calls.mono (H21.out _ HR1.out) ?_
  rintro e w2 ⟨rfl, hr, hb, hk⟩
  have HR2 := hid hr
  have HT2 := hid (HT1.out.below hb HGR.out)
  have HB2 := hid (HB1.out.trans (hb.mono (Nat.le_of_lt HGR.out)))
  have HQ2 : Hid (Blk w2 B [.int .i64 1, .int .i64 id, .int .i64 z0, .int .i64 z1, .int .i64 z2, .int .i64 z3, .int .i64 z4, .int .i64 z5, .int .i64 z6, .int .i64 z7, .int .i64 z8, .int .i64 z9, .int .i64 z10] 34) := rf_blk HR1.out hk HQ1.out HRB.out HNB1.out
  clear hr hb hk
  clear q0 q1 q2 q3 q4 q5 q6 q7 q8 q9 q10 q11 q12
  go_wp2
  go_ret
  exact ⟨rfl, _, past + 1, by have := HP.out; omega, by omega, HT2.out, HR2.out, HB2.out⟩
end Go.Proofs.Ytdagkeklfhlcnaa
