/- The reference's table: Get, At; the program's Get where there is none. -/
import Derived.Test.YtdagkeklfhlcnaaRfa
namespace Go.Proofs.Ytdagkeklfhlcnaa
open Go.RowKit
theorem zone : ∀ v ∈ [Value.int .i64 0, .int .i64 0, .int .i64 0, .int .i64 0, .int .i64 0, .int .i64 0, .int .i64 0, .int .i64 0, .int .i64 0, .int .i64 0, .int .i64 0], v.oneCell' = true := ent_one zE
theorem zsize : (Try.prog.info? 32).map (·.size) = some [Value.int .i64 0, .int .i64 0, .int .i64 0, .int .i64 0, .int .i64 0, .int .i64 0, .int .i64 0, .int .i64 0, .int .i64 0, .int .i64 0, .int .i64 0].length := size32
/-- Where nothing is found, zero numbers are handed back. -/
theorem fnd_cases : ∀ (l : List (List Int)) (id : Int) (k : Int), (fnd l id k = -1 ∧ ∀ j, j < l.length → (l.getD j []).getD 0 0 ≠ id) ∨ ∃ i : Nat, i < l.length ∧ fnd l id k = k + i
  | [], _, _ => Or.inl ⟨rfl, fun j hj => by simp at hj⟩
  | e :: l, id, k => by
    rw [fnd]
    by_cases h : e.getD 0 0 = id
    · rw [if_pos h]; exact Or.inr ⟨0, by simp, by simp⟩
    · rw [if_neg h]
      rcases fnd_cases l id (k + 1) with ⟨h1, h2⟩ | ⟨i, hi, h1⟩
      · refine Or.inl ⟨h1, fun j hj => ?_⟩
        match j with
        | 0 => exact h
        | j + 1 => exact h2 j (by simpa using hj)
      · exact Or.inr ⟨i + 1, by simpa using hi, by rw [h1]; simp; omega⟩
set_option maxHeartbeats 2000000 in
theorem getNone_any (b : Nat) (l : List (List Int)) (past id : Int) (w : World) (h : Tb w b l past) (hf : fnd l id 0 = -1) : Calls Try.prog 17 #[P b, .int .i64 id] w fun r w' => Out w (.tuple #[E zE, .int .i64 3]) r w' := by
  have h30 : Hid (∀ W, Tb W b l past → Calls Try.prog 30 #[P b, .int .i64 id] W fun r w' => Out W (.int .i64 (-1)) r w') := fun W h => by
    have := find_any b l past id W h
    rwa [hf] at this
  have HT := hid h
  have HLT := hid h.lt
  rw [E_zero]
  obtain ⟨W, hW⟩ : ∃ W, W = w.alloc (.cells #[Value.int .i64 0, .int .i64 0, .int .i64 0, .int .i64 0, .int .i64 0, .int .i64 0, .int .i64 0, .int .i64 0, .int .i64 0, .int .i64 0, .int .i64 0] 32) := ⟨_, rfl⟩
  obtain ⟨g, hg⟩ : ∃ g, g = w.heap.size := ⟨_, rfl⟩
  have HBW : Hid (Below w.heap.size w W) := by rw [hW]; exact (Below.refl _ _).alloc (Nat.le_refl _) _
  have HGW : Hid (Blk W g [.int .i64 0, .int .i64 0, .int .i64 0, .int .i64 0, .int .i64 0, .int .i64 0, .int .i64 0, .int .i64 0, .int .i64 0, .int .i64 0, .int .i64 0] 32) := by rw [hW, hg]; exact Blk.new _ _ _
  have HG := hid (fun (_ : Nat) => hg)
  unfold P Out at *
  clear h hf
  go_enter Try.func17, Try.ntmps17
  go_upto_region 1 with fail
  rw [← hW, ← hg]
  clear hW hg
  go_wp2_with fail
  refine Calls.mono (h30.out _ (HT.out.below HBW.out HLT.out)) ?_
  rintro e w1 ⟨rfl, hb1⟩
  have HB1 := hid (HBW.out.trans (hb1.mono HBW.out.size))
  have HG1 := hid (HGW.out.below hb1 HGW.out.lt)
  clear hb1 HGW HBW
  have hcs := hid zone
  have HTH : Hid (w1.there g 0 [Value.int .i64 0, .int .i64 0, .int .i64 0, .int .i64 0, .int .i64 0, .int .i64 0, .int .i64 0, .int .i64 0, .int .i64 0, .int .i64 0, .int .i64 0].length) := HG1.out.there 0 11 (by simp)
  have hsz := hid zsize
  go_wp2_with (first
      | ((with_reducible refine wpL_store 32 g 0 [Value.int .i64 0, .int .i64 0, .int .i64 0, .int .i64 0, .int .i64 0, .int .i64 0, .int .i64 0, .int .i64 0, .int .i64 0, .int .i64 0, .int .i64 0] ?_ ?_ HTH.out hsz.out hcs.out ?_); (rfl); (rfl); (simp only [Act.put])))
  have hb := HG1.out.setCells [Value.int .i64 0, .int .i64 0, .int .i64 0, .int .i64 0, .int .i64 0, .int .i64 0, .int .i64 0, .int .i64 0, .int .i64 0, .int .i64 0, .int .i64 0] 0 (by simp)
  exact bodyPost_ret (results_cell_tmp Try.results17 rfl rfl hb Try.underlying32 rfl size32) rfl ⟨rfl, Below.setCells HB1.out (by have := HG.out 0; omega) _ _⟩
set_option maxHeartbeats 2000000 in
theorem rgetNone_any (r : Nat) (l : List (List Int)) (nx id : Int) (w : World) (h : Rf w r l nx) (hs : l.length ≤ 1000000) (hf : fnd l id 0 = -1) : Calls Try.prog 22 #[P r, .int .i64 id] w fun e w' => Out w (.tuple #[E zE, .int .i64 3]) e w' := by
  have h33 : Hid (∀ W, Rf W r l nx → Calls Try.prog 33 #[P r, .int .i64 id] W fun r w' => r = .returned (.int .i64 (-1)) ∧ w' = W) := fun W h => by
    have := rfind_any r l nx id W h hs
    rwa [hf] at this
  have HT := hid h
  rw [E_zero]
  obtain ⟨W, hW⟩ : ∃ W, W = w.alloc (.cells #[Value.int .i64 0, .int .i64 0, .int .i64 0, .int .i64 0, .int .i64 0, .int .i64 0, .int .i64 0, .int .i64 0, .int .i64 0, .int .i64 0, .int .i64 0] 32) := ⟨_, rfl⟩
  obtain ⟨g, hg⟩ : ∃ g, g = w.heap.size := ⟨_, rfl⟩
  have HBW : Hid (Below w.heap.size w W) := by rw [hW]; exact (Below.refl _ _).alloc (Nat.le_refl _) _
  have HGW : Hid (Blk W g [.int .i64 0, .int .i64 0, .int .i64 0, .int .i64 0, .int .i64 0, .int .i64 0, .int .i64 0, .int .i64 0, .int .i64 0, .int .i64 0, .int .i64 0] 32) := by rw [hW, hg]; exact Blk.new _ _ _
  have HG := hid (fun (_ : Nat) => hg)
  unfold P Out at *
  clear h hf hs
  go_enter Try.func22, Try.ntmps22
  go_upto_region 1 with fail
  rw [← hW, ← hg]
  clear hW hg
  go_wp2_with fail
  refine Calls.mono (h33.out _ (HT.out.below HBW.out)) ?_
  rintro e w1 ⟨rfl, rfl⟩
  have hcs := hid zone
  have HTH : Hid (w1.there g 0 [Value.int .i64 0, .int .i64 0, .int .i64 0, .int .i64 0, .int .i64 0, .int .i64 0, .int .i64 0, .int .i64 0, .int .i64 0, .int .i64 0, .int .i64 0].length) := HGW.out.there 0 11 (by simp)
  have hsz := hid zsize
  go_wp2_with (first
      | ((with_reducible refine wpL_store 32 g 0 [Value.int .i64 0, .int .i64 0, .int .i64 0, .int .i64 0, .int .i64 0, .int .i64 0, .int .i64 0, .int .i64 0, .int .i64 0, .int .i64 0, .int .i64 0] ?_ ?_ HTH.out hsz.out hcs.out ?_); (rfl); (rfl); (simp only [Act.put])))
  have hb := HGW.out.setCells [Value.int .i64 0, .int .i64 0, .int .i64 0, .int .i64 0, .int .i64 0, .int .i64 0, .int .i64 0, .int .i64 0, .int .i64 0, .int .i64 0, .int .i64 0] 0 (by simp)
  exact bodyPost_ret (results_cell_tmp Try.results22 rfl rfl hb Try.underlying32 rfl size32) rfl ⟨rfl, Below.setCells HBW.out (by have := HG.out 0; omega) _ _⟩
set_option maxHeartbeats 2000000 in
theorem rget_any (r : Nat) (l : List (List Int)) (nx id : Int) (i : Nat) (w : World) (h : Rf w r l nx) (hs : l.length ≤ 1000000) (hf : fnd l id 0 = (i : Int)) (hi : i < l.length) : Calls Try.prog 22 #[P r, .int .i64 id] w fun e w' => Out w (.tuple #[E (l.getD i []), .int .i64 0]) e w' := by
  have h33 : Hid (∀ W, Rf W r l nx → Calls Try.prog 33 #[P r, .int .i64 id] W fun r w' => r = .returned (.int .i64 (i : Int)) ∧ w' = W) := fun W h => by
    have := rfind_any r l nx id W h hs
    rwa [hf] at this
  have HT := hid h
  obtain ⟨W, hW⟩ : ∃ W, W = w.alloc (.cells #[Value.int .i64 0, .int .i64 0, .int .i64 0, .int .i64 0, .int .i64 0, .int .i64 0, .int .i64 0, .int .i64 0, .int .i64 0, .int .i64 0, .int .i64 0] 32) := ⟨_, rfl⟩
  obtain ⟨g, hg⟩ : ∃ g, g = w.heap.size := ⟨_, rfl⟩
  have HBW : Hid (Below w.heap.size w W) := by rw [hW]; exact (Below.refl _ _).alloc (Nat.le_refl _) _
  have HGW : Hid (Blk W g [.int .i64 0, .int .i64 0, .int .i64 0, .int .i64 0, .int .i64 0, .int .i64 0, .int .i64 0, .int .i64 0, .int .i64 0, .int .i64 0, .int .i64 0] 32) := by rw [hW, hg]; exact Blk.new _ _ _
  have HG := hid (fun (_ : Nat) => hg)
  have HTW := hid (HT.out.below HBW.out)
  obtain ⟨v, hb, ho⟩ := HTW.out
  obtain ⟨p, cap, rfl⟩ := ho.form
  have q0 : W.cell? ⟨r, 0, none⟩ = some (.slice p l.length cap) := hb.cell 0
  obtain ⟨u, z0, z1, z2, z3, z4, z5, z6, z7, z8, z9, z10, rfl, -, -, he, hc⟩ := ho.nums i hi
  obtain ⟨c0, c1, c2, c3, c4, c5, c6, c7, c8, c9, c10⟩ := hc W rfl
  have hi0 : ((i : Int) < 0) = False := by simp
  have hi1 : (i : Int) < (l.length : Int) := by omega
  have hi2 : (0 : Int) ≤ (i : Int) := by omega
  rw [he]
  unfold E
  simp only [List.map_cons, List.map_nil, I]
  generalize l.length = N at *
  unfold P Out at *
  clear h hf hs hc he ho hb hi
  go_enter Try.func22, Try.ntmps22
  go_upto_region 1 with fail
  rw [← hW, ← hg]
  clear hW hg
  go_wp2_with fail
  refine Calls.mono (h33.out _ HTW.out) ?_
  rintro e w1 ⟨rfl, hw1⟩
  subst hw1
  have hcs : Hid (∀ v ∈ [Value.int .i64 z0, .int .i64 z1, .int .i64 z2, .int .i64 z3, .int .i64 z4, .int .i64 z5, .int .i64 z6, .int .i64 z7, .int .i64 z8, .int .i64 z9, .int .i64 z10], v.oneCell' = true) := ent_one [z0, z1, z2, z3, z4, z5, z6, z7, z8, z9, z10]
  have HTH : Hid (w1.there g 0 [Value.int .i64 z0, .int .i64 z1, .int .i64 z2, .int .i64 z3, .int .i64 z4, .int .i64 z5, .int .i64 z6, .int .i64 z7, .int .i64 z8, .int .i64 z9, .int .i64 z10].length) := HGW.out.there 0 11 (by simp)
  have hsz : Hid ((Try.prog.info? 32).map (·.size) = some [Value.int .i64 z0, .int .i64 z1, .int .i64 z2, .int .i64 z3, .int .i64 z4, .int .i64 z5, .int .i64 z6, .int .i64 z7, .int .i64 z8, .int .i64 z9, .int .i64 z10].length) := size32
  go_wp2_with (first
      | ((with_reducible refine wpL_store 32 g 0 [Value.int .i64 z0, .int .i64 z1, .int .i64 z2, .int .i64 z3, .int .i64 z4, .int .i64 z5, .int .i64 z6, .int .i64 z7, .int .i64 z8, .int .i64 z9, .int .i64 z10] ?_ ?_ HTH.out hsz.out hcs.out ?_); (rfl); (rfl); (simp only [Act.put])))
  have hb := HGW.out.setCells [Value.int .i64 z0, .int .i64 z1, .int .i64 z2, .int .i64 z3, .int .i64 z4, .int .i64 z5, .int .i64 z6, .int .i64 z7, .int .i64 z8, .int .i64 z9, .int .i64 z10] 0 (by simp)
  exact bodyPost_ret (results_cell_tmp Try.results22 rfl rfl hb Try.underlying32 rfl size32) rfl ⟨rfl, Below.setCells HBW.out (by have := HG.out 0; omega) _ _⟩
end Go.Proofs.Ytdagkeklfhlcnaa
