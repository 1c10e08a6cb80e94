/- Remove, Get, and that the program is awake. -/
import Derived.Test.YtdagkeklfhlcnaaDel
namespace Go.Proofs.Ytdagkeklfhlcnaa
open Go.RowKit
theorem results_cell_tmp {P : Program} {fn : Func} {p q : Tmp} {ty : TypeId} (h : fn.results = #[.cell p ty, .tmp q]) {tmps : Array Value} {w : World} {b : Nat} {l : List Value} {t : TypeId} {d : TypeDesc} {v : Value}
    (hp : tmps.getD p undef = .pointer (some ⟨b, 0, none⟩)) (hq : tmps.getD q undef = v) (hb : Blk w b l t)
    (hu : P.underlying ty = some d) (hd : d.isRow = true) (hi : (P.info? ty).map (·.size) = some l.length) :
    (results fn tmps).run P w = .ok (.tuple #[.agg l.toArray, v]) w := by
  have hl := run_loadVar_mid (P := P) w b 0 ty l d hb.range hu hd hi
  have ha : (asAddr (tmps[p]?.getD undef)).run P w = .ok ⟨b, 0, none⟩ w := by
    have : tmps[p]?.getD undef = .pointer (some ⟨b, 0, none⟩) := by simpa using hp
    rw [this]; rfl
  have hv : tmps[q]?.getD undef = v := by simpa using hq
  simp only [results, h]
  simp [Sem.run_bind, Result.andThen, ha, hl, hv]
set_option maxHeartbeats 1000000 in
theorem remNil_any (id : Int) (w : World) : Calls Try.prog 15 #[.pointer none, .int .i64 id] w fun r w' => r = .returned (.int .i64 3) ∧ w' = w := by
  have h30 := hid (findNil_any id)
  go_enter Try.func15, Try.ntmps15
  go_wp2_with fail
  refine Calls.mono (h30.out _) ?_
  rintro e w1 ⟨rfl, rfl⟩
  go_wp2
  go_ret
  exact ⟨rfl, rfl⟩
set_option maxHeartbeats 1000000 in
theorem remNone_any (b : Nat) (l : List (List Int)) (past id : Int) (w : World) (h : Tb w b l past) (hf : fnd l id 0 = -1) : Calls Try.prog 15 #[P b, .int .i64 id] w fun r w' => Out w (.int .i64 3) r w' := by
  have h30 : Hid (Calls Try.prog 30 #[P b, .int .i64 id] w fun r w' => Out w (.int .i64 (-1)) r w') := by
    have := find_any b l past id w h
    rwa [hf] at this
  unfold P Out at *
  clear h hf
  go_enter Try.func15, Try.ntmps15
  go_wp2_with fail
  refine Calls.mono h30.out ?_
  rintro e w1 ⟨rfl, hb1⟩
  have HB1 := hid hb1
  clear hb1
  go_wp2
  go_ret
  exact ⟨rfl, HB1.out⟩
/-- What a Remove leaves. -/
def OutRem (w : World) (b : Nat) (l : List (List Int)) (past : Int) (r : Ending) (w' : World) : Prop := r = .returned (.int .i64 0) ∧ Tb w' b l past ∧ Only b w w'
set_option maxHeartbeats 2000000 in
theorem rem_any (b : Nat) (l : List (List Int)) (past id : Int) (i : Nat) (w : World) (h : Tb w b l past) (hf : fnd l id 0 = (i : Int)) (hi : i < l.length) : Calls Try.prog 15 #[P b, .int .i64 id] w fun r w' => OutRem w b (l.eraseIdx i) past r w' := by
  obtain ⟨m, hm⟩ : ∃ m, l.length = i + 1 + m := ⟨l.length - (i + 1), by omega⟩
  have h30 : Hid (Calls Try.prog 30 #[P b, .int .i64 id] w fun r w' => Out w (.int .i64 (i : Int)) r w') := by
    have := find_any b l past id w h
    rwa [hf] at this
  have h29 : Hid (∀ W, Tb W b l past → Calls Try.prog 29 #[P b] W fun e w' => e = .returned (.slice (some ⟨b, 0, none⟩) (i + 1 + m) 40) ∧ ∃ k, w' = W.drewN k) := fun W h => by
    have := all_any b l past W h
    rwa [hm] at this
  have h31 : Hid (∀ W, Tb W b l past → Calls Try.prog 31 #[.slice (some ⟨b, 0, none⟩) (i + 1 + m) 40, .int .i64 (i : Int), .int .i64 ((i : Int) + 1)] W fun r w' => OutDel W b l past i m r w') := fun W h => del_any b l past i m hm W h
  have HT := hid h
  have HLT := hid h.lt
  have hn := h.few
  have hi40 : (i : Int) + 1 ≤ 9223372036854775807 := by omega
  have hi0 : ((i : Int) < 0) = False := by simp
  have HE : Hid (((l.eraseIdx i).length : Int) = (i : Int) + (m : Int)) := by
    show _ = _
    rw [List.length_eraseIdx_of_lt hi]; omega
  unfold OutRem
  unfold P Out at *
  clear h hf hi hm
  go_enter Try.func15, Try.ntmps15
  go_wp2_with fail
  refine Calls.mono h30.out ?_
  rintro e w1 ⟨rfl, hb1⟩
  have HB1 := hid hb1
  have HT1 := hid (HT.out.below hb1 HLT.out)
  clear hb1
  go_wp2_with fail
  refine Calls.mono (h29.out _ HT1.out) ?_
  rintro e w2 ⟨rfl, k, hw2⟩
  have HT2 : Hid (Tb w2 b l past) := by rw [hw2]; exact HT1.out.keep rfl
  have HO2 : Hid (Only b w w2) := (Below.only HB1.out b).trans (by rw [hw2]; exact ⟨rfl, rfl, rfl, Nat.le_refl _, fun _ _ _ => rfl⟩)
  clear hw2
  go_wp2_with fail
  refine Calls.mono (h31.out _ HT2.out) ?_
  rintro e w3 ⟨rfl, ⟨rest, r1, r2, r3, r4⟩, ho3⟩
  have HO3 := hid (HO2.out.trans ho3)
  have c0 := (r1.cell 440).trans (tbL_count r2 r3 r4 (l.length : Int) past).1
  have f0 := r1.frozen 440
  have HR : Hid (Tb (w3.setCell ⟨b, 440, none⟩ (.int .i64 ((i : Int) + (m : Int)))) b (l.eraseIdx i) past) := by
    have h5 := r1.set 440 (I ((l.eraseIdx i).length : Int))
    rw [(tbL_set r2 r3 r4 (l.length : Int) past _).1] at h5
    have h6 : I ((l.eraseIdx i).length : Int) = .int .i64 ((i : Int) + (m : Int)) := by rw [← HE.out]; rfl
    rw [h6] at h5
    exact ⟨rest, h5, r2, r3, r4⟩
  unfold I at c0
  clear r1 r2 r3 r4 ho3
  go_wp2
  go_ret
  exact ⟨rfl, HR.out, HO3.out.trans (Only.set b 440 w3 _)⟩
theorem E_zero : E zE = .agg #[.int .i64 0, .int .i64 0, .int .i64 0, .int .i64 0, .int .i64 0, .int .i64 0, .int .i64 0, .int .i64 0, .int .i64 0, .int .i64 0, .int .i64 0] := rfl
set_option maxHeartbeats 1000000 in
theorem getNil_any (id : Int) (w : World) : Calls Try.prog 17 #[.pointer none, .int .i64 id] w fun r w' => Out w (.tuple #[E zE, .int .i64 3]) r w' := by
  have h30 := hid (findNil_any id)
  unfold Out
  rw [E_zero]
  go_enter Try.func17, Try.ntmps17
  go_wp2_with fail
  refine Calls.mono (h30.out _) ?_
  rintro e w1 ⟨rfl, rfl⟩
  go_wp2
  exact bodyPost_ret (results_cell_tmp Try.results17 rfl rfl (Blk.new w [.int .i64 0, .int .i64 0, .int .i64 0, .int .i64 0, .int .i64 0, .int .i64 0, .int .i64 0, .int .i64 0, .int .i64 0, .int .i64 0, .int .i64 0] 32) Try.underlying32 rfl size32) rfl ⟨rfl, (Below.refl _ _).alloc (Nat.le_refl _) _⟩
set_option maxHeartbeats 2000000 in
theorem get_any (b : Nat) (l : List (List Int)) (past id : Int) (i : Nat) (w : World) (h : Tb w b l past) (hf : fnd l id 0 = (i : Int)) (hi : i < l.length) : Calls Try.prog 17 #[P b, .int .i64 id] w fun r w' => Out w (.tuple #[E (l.getD i []), .int .i64 0]) r w' := by
  have h30 : Hid (∀ W, Tb W b l past → Calls Try.prog 30 #[P b, .int .i64 id] W fun r w' => Out W (.int .i64 (i : Int)) r w') := fun W h => by
    have := find_any b l past id W h
    rwa [hf] at this
  have HT := hid h
  have HLT := hid h.lt
  have hn := h.few
  obtain ⟨z0, z1, z2, z3, z4, z5, z6, z7, z8, z9, z10, he, hc⟩ := h.nums i hi
  have HC := hid hc
  have hi0 : ((i : Int) < 0) = False := by simp
  have hi1 : (i : Int) < 40 := by omega
  have hi2 : (0 : Int) ≤ (i : Int) := by omega
  rw [he]
  unfold E
  simp only [List.map_cons, List.map_nil, I]
  obtain ⟨W, hW⟩ : ∃ W, W = w.alloc (.cells #[Value.int .i64 0, .int .i64 0, .int .i64 0, .int .i64 0, .int .i64 0, .int .i64 0, .int .i64 0, .int .i64 0, .int .i64 0, .int .i64 0, .int .i64 0] 32) := ⟨_, rfl⟩
  obtain ⟨g, hg⟩ : ∃ g, g = w.heap.size := ⟨_, rfl⟩
  have HBW : Hid (Below w.heap.size w W) := by rw [hW]; exact (Below.refl _ _).alloc (Nat.le_refl _) _
  have HGW : Hid (Blk W g [.int .i64 0, .int .i64 0, .int .i64 0, .int .i64 0, .int .i64 0, .int .i64 0, .int .i64 0, .int .i64 0, .int .i64 0, .int .i64 0, .int .i64 0] 32) := by rw [hW, hg]; exact Blk.new _ _ _
  have HG := hid (fun (_ : Nat) => hg)
  unfold P Out at *
  clear h hf hi hc he
  go_enter Try.func17, Try.ntmps17
  go_upto_region 1 with fail
  rw [← hW, ← hg]
  clear hW hg
  go_wp2_with fail
  refine Calls.mono (h30.out _ (HT.out.below HBW.out HLT.out)) ?_
  rintro e w1 ⟨rfl, hb1⟩
  have HB1 := hid (HBW.out.trans (hb1.mono HBW.out.size))
  have HG1 := hid (HGW.out.below hb1 HGW.out.lt)
  clear hb1 HGW HBW
  obtain ⟨c0, c1, c2, c3, c4, c5, c6, c7, c8, c9, c10⟩ := HC.out w1 (HB1.out.block b HLT.out)
  have hcs : Hid (∀ v ∈ [Value.int .i64 z0, .int .i64 z1, .int .i64 z2, .int .i64 z3, .int .i64 z4, .int .i64 z5, .int .i64 z6, .int .i64 z7, .int .i64 z8, .int .i64 z9, .int .i64 z10], v.oneCell' = true) := ent_one [z0, z1, z2, z3, z4, z5, z6, z7, z8, z9, z10]
  have HTH : Hid (w1.there g 0 [Value.int .i64 z0, .int .i64 z1, .int .i64 z2, .int .i64 z3, .int .i64 z4, .int .i64 z5, .int .i64 z6, .int .i64 z7, .int .i64 z8, .int .i64 z9, .int .i64 z10].length) := HG1.out.there 0 11 (by simp)
  have hsz : Hid ((Try.prog.info? 32).map (·.size) = some [Value.int .i64 z0, .int .i64 z1, .int .i64 z2, .int .i64 z3, .int .i64 z4, .int .i64 z5, .int .i64 z6, .int .i64 z7, .int .i64 z8, .int .i64 z9, .int .i64 z10].length) := size32
  go_wp2_with (first
    | ((with_reducible refine wpL_store 32 g 0 [Value.int .i64 z0, .int .i64 z1, .int .i64 z2, .int .i64 z3, .int .i64 z4, .int .i64 z5, .int .i64 z6, .int .i64 z7, .int .i64 z8, .int .i64 z9, .int .i64 z10] ?_ ?_ HTH.out hsz.out hcs.out ?_); (rfl); (rfl); (simp only [Act.put])))
  have hb := HG1.out.setCells [Value.int .i64 z0, .int .i64 z1, .int .i64 z2, .int .i64 z3, .int .i64 z4, .int .i64 z5, .int .i64 z6, .int .i64 z7, .int .i64 z8, .int .i64 z9, .int .i64 z10] 0 (by simp)
  exact bodyPost_ret (results_cell_tmp Try.results17 rfl rfl hb Try.underlying32 rfl size32) rfl ⟨rfl, Below.setCells HB1.out (by have := HG.out 0; omega) _ _⟩
set_option maxHeartbeats 2000000 in
theorem awake_any (w : World) : Calls Try.prog 7 #[] w fun r w' => Out w (.bool true) r w' := by
  have h8 := hid new_any
  have h14 : Hid (∀ b W, Tb W b [] 0 → Calls Try.prog 14 #[P b, E [0, 0, 1, 0, 0, 0, 0, 0, 0, 0, 0]] W fun r w' => r = .returned (.tuple #[.int .i64 1, .int .i64 0]) ∧ Tb w' b [[1, 0, 1, 0, 0, 0, 0, 0, 0, 0, 0]] 1 ∧ Only b W w') := fun b W h => ins_any b [] 0 [0, 0, 1, 0, 0, 0, 0, 0, 0, 0, 0] rfl W h (by omega) (by simp)
  have h17 : Hid (∀ b W, Tb W b [[1, 0, 1, 0, 0, 0, 0, 0, 0, 0, 0]] 1 → Calls Try.prog 17 #[P b, .int .i64 1] W fun r w' => Out W (.tuple #[E [1, 0, 1, 0, 0, 0, 0, 0, 0, 0, 0], .int .i64 0]) r w') := fun b W h => get_any b _ 1 1 0 W h rfl (by simp)
  have h11 : Hid (∀ b W, Tb W b [[1, 0, 1, 0, 0, 0, 0, 0, 0, 0, 0]] 1 → Calls Try.prog 11 #[P b] W fun r w' => r = .returned (.int .i64 2) ∧ w' = W) := fun b W h => by
    have := next_any b _ 1 W h
    rwa [show wrap64 (1 + 1) = 2 by rw [wrap_in _ (by omega)]; rfl] at this
  unfold Out E P at *
  simp only [List.map_cons, List.map_nil, I] at h14 h17
  go_enter Try.func7, Try.ntmps7
  go_wp2_with fail
  refine Calls.mono (h8.out _) ?_
  rintro e w1 ⟨rfl, ht1, hb1⟩
  obtain ⟨g, hg⟩ : ∃ g, w.heap.size = g := ⟨_, rfl⟩
  rw [hg] at ht1 ⊢
  have HG : Hid (∀ _ : Nat, w.heap.size = g) := fun _ => hg
  have HT1 := hid ht1
  have HB1 := hid hb1
  clear ht1 hb1 hg
  go_wp2_with fail
  refine Calls.mono (h14.out _ _ HT1.out) ?_
  rintro e w2 ⟨rfl, ht2, ho2⟩
  have HT2 := hid ht2
  have HB2 := hid (Only.below HB1.out ho2 (Nat.le_of_eq (HG.out 0)) HB1.out.size)
  clear ht2 ho2
  go_wp2_with fail
  refine Calls.mono (h17.out _ _ HT2.out) ?_
  rintro e w3 ⟨rfl, hb3⟩
  have HT3 := hid (HT2.out.below hb3 HT2.out.lt)
  have HB3 := hid (HB2.out.trans (hb3.mono HB2.out.size))
  clear hb3
  go_upto_region 6 with fail
  obtain ⟨W, hW⟩ : ∃ W, W = w3.alloc (.cells #[Value.int .i64 1, .int .i64 0, .int .i64 1, .int .i64 0, .int .i64 0, .int .i64 0, .int .i64 0, .int .i64 0, .int .i64 0, .int .i64 0, .int .i64 0] 32) := ⟨_, rfl⟩
  rw [← hW]
  have HTW : Hid (Tb W g [[1, 0, 1, 0, 0, 0, 0, 0, 0, 0, 0]] 1) := by rw [hW]; exact HT3.out.below ((Below.refl _ _).alloc (Nat.le_refl _) _) HT3.out.lt
  have HBW : Hid (Below w.heap.size w W) := by rw [hW]; exact HB3.out.alloc HB3.out.size _
  have c2 : W.cell? ⟨w3.heap.size, 2, none⟩ = some (.int .i64 1) := by rw [hW]; exact (Blk.new w3 [.int .i64 1, .int .i64 0, .int .i64 1, .int .i64 0, .int .i64 0, .int .i64 0, .int .i64 0, .int .i64 0, .int .i64 0, .int .i64 0, .int .i64 0] 32).cell 2
  clear hW
  go_wp2_with fail
  refine Calls.mono (h11.out _ _ HTW.out) ?_
  rintro e w4 ⟨rfl, rfl⟩
  go_wp2
  go_ret
  exact ⟨rfl, HBW.out⟩
end Go.Proofs.Ytdagkeklfhlcnaa
