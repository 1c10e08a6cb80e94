/- What no table answers; From of a list of one entity. -/
import Derived.Test.YtdagkeklfhlcnaaFullWalk
namespace Go.Proofs.Ytdagkeklfhlcnaa
open Go.RowKit
set_option maxHeartbeats 2000000 in
theorem atNil_any (x y : Int) (w : World) : Calls Try.prog 18 #[.pointer none, .agg #[.int .i64 x, .int .i64 y]] w fun r w' => Out w (.tuple #[E zE, .bool false]) r w' := by
  have h29 := hid allNil_any
  unfold Out
  rw [E_zero]
  go_enter Try.func18, Try.ntmps18
  go_upto_region 1 with fail
  obtain ⟨W, hW⟩ : ∃ W, W = (w.alloc (.cells #[Value.int .i64 x, .int .i64 y] 30)).alloc (.cells #[Value.int .i64 0, .int .i64 0, .int .i64 0, .int .i64 0, .int .i64 0, .int .i64 0, .int .i64 0, .int .i64 0, .int .i64 0, .int .i64 0, .int .i64 0] 32) := ⟨_, rfl⟩
  obtain ⟨g, hg⟩ : ∃ g, g = w.heap.size + 1 := ⟨_, rfl⟩
  rw [← hW, ← hg]
  have HBW : Hid (Below w.heap.size w W) := by rw [hW]; exact ((Below.refl _ _).alloc (Nat.le_refl _) _).alloc (by simp) _
  have HGW : Hid (Blk W g [.int .i64 0, .int .i64 0, .int .i64 0, .int .i64 0, .int .i64 0, .int .i64 0, .int .i64 0, .int .i64 0, .int .i64 0, .int .i64 0, .int .i64 0] 32) := by rw [hW]; exact Blk.new' _ _ _ _ (by simp [hg])
  have HG : Hid (w.heap.size ≤ g) := by show _ ≤ _; omega
  clear hW hg
  go_wp2_with fail
  refine Calls.mono (h29.out _) ?_
  rintro e w1 ⟨rfl, rfl⟩
  have hcs : Hid (∀ v ∈ [Value.int .i64 0, .int .i64 0, .int .i64 0, .int .i64 0, .int .i64 0, .int .i64 0, .int .i64 0, .int .i64 0, .int .i64 0, .int .i64 0, .int .i64 0], v.oneCell' = true) := ent_one zE
  have HTH : Hid (w1.there g 0 [Value.int .i64 0, .int .i64 0, .int .i64 0, .int .i64 0, .int .i64 0, .int .i64 0, .int .i64 0, .int .i64 0, .int .i64 0, .int .i64 0, .int .i64 0].length) := HGW.out.there 0 11 (by simp)
  have hsz : Hid ((Try.prog.info? 32).map (·.size) = some [Value.int .i64 0, .int .i64 0, .int .i64 0, .int .i64 0, .int .i64 0, .int .i64 0, .int .i64 0, .int .i64 0, .int .i64 0, .int .i64 0, .int .i64 0].length) := size32
  go_wp2_with fail
  go_loopw [11] (fun iv wr => iv = .int .i64 0 ∧ wr = w1) (fun _ _ => 0)
  case atStart => exact ⟨rfl, rfl⟩
  case round =>
    obtain ⟨rfl, rfl⟩ := hrel
    go_wp2_with (first
      | ((with_reducible refine wpL_store 32 g 0 [Value.int .i64 0, .int .i64 0, .int .i64 0, .int .i64 0, .int .i64 0, .int .i64 0, .int .i64 0, .int .i64 0, .int .i64 0, .int .i64 0, .int .i64 0] ?_ ?_ HTH.out hsz.out hcs.out ?_); (rfl); (rfl); (simp only [Act.put])))
    have hb := HGW.out.setCells [Value.int .i64 0, .int .i64 0, .int .i64 0, .int .i64 0, .int .i64 0, .int .i64 0, .int .i64 0, .int .i64 0, .int .i64 0, .int .i64 0, .int .i64 0] 0 (by simp)
    exact bodyPost_ret (results_cell_tmp Try.results18 rfl rfl hb Try.underlying32 rfl size32) rfl ⟨rfl, Below.setCells HBW.out HG.out _ _⟩
set_option maxHeartbeats 2000000 in
theorem setNil_any (e : List Int) (he : e.length = 11) (w : World) : Calls Try.prog 19 #[.pointer none, E e] w fun r w' => Out w (.int .i64 3) r w' := by
  obtain ⟨z0, z1, z2, z3, z4, z5, z6, z7, z8, z9, z10, rfl⟩ := eleven he
  have h30 := hid (findNil_any z0)
  unfold E Out
  simp only [List.map_cons, List.map_nil, I]
  go_enter Try.func19, Try.ntmps19
  go_wp2_with fail
  refine Calls.mono (h30.out _) ?_
  rintro e w1 ⟨rfl, hw⟩
  subst hw
  go_wp2
  go_ret
  exact ⟨rfl, (Below.refl _ _).alloc (Nat.le_refl _) _⟩
set_option maxHeartbeats 1000000 in
theorem ofNil_any (o : Int) (w : World) : Calls Try.prog 20 #[.pointer none, .int .i64 o] w fun r w' => r = .returned (.slice none 0 0) ∧ w' = w := by
  have h29 := hid allNil_any
  go_enter Try.func20, Try.ntmps20
  go_wp2_with fail
  refine Calls.mono (h29.out _) ?_
  rintro e w1 ⟨rfl, rfl⟩
  go_wp2_with fail
  go_loopw [11, 5] (fun iv lv wr => iv = .int .i64 0 ∧ lv = .slice none 0 0 ∧ wr = w1) (fun _ _ _ => 0)
  case atStart => exact ⟨rfl, rfl, rfl⟩
  case round =>
    obtain ⟨rfl, rfl, rfl⟩ := hrel
    go_wp2
    go_ret
    exact ⟨rfl, rfl⟩
set_option maxHeartbeats 2000000 in
theorem riseOne_any (g : Nat) (z1 z2 z3 z4 z5 z6 z7 z8 z9 z10 : Int) (w : World) (hb : Blk w g [.int .i64 1, .int .i64 z1, .int .i64 z2, .int .i64 z3, .int .i64 z4, .int .i64 z5, .int .i64 z6, .int .i64 z7, .int .i64 z8, .int .i64 z9, .int .i64 z10] 32) : Calls Try.prog 32 #[.slice (some ⟨g, 0, none⟩) 1 1, .int .i64 5] w fun r w' => Out w (.bool true) r w' := by
  have HB := hid hb
  unfold Out
  clear hb
  go_enter Try.func32, Try.ntmps32
  go_wp2_with fail
  go_loopw [10, 5] (fun iv pv wr => (iv = .int .i64 0 ∧ pv = .int .i64 0 ∧ wr = w) ∨ (iv = .int .i64 1 ∧ pv = .int .i64 1 ∧ Hid (Below w.heap.size w wr))) (fun iv _ _ => 1 - (intOf iv).toNat)
  case atStart => exact Or.inl ⟨rfl, rfl, rfl⟩
  case round =>
    rcases hrel with ⟨rfl, rfl, rfl⟩ | ⟨rfl, rfl, HB2⟩
    · have g0 : wr.cell? ⟨g, 0, none⟩ = some (.int .i64 1) := HB.out.cell 0
      have g1 : wr.cell? ⟨g, 1, none⟩ = some (.int .i64 z1) := HB.out.cell 1
      have g2 : wr.cell? ⟨g, 2, none⟩ = some (.int .i64 z2) := HB.out.cell 2
      have g3 : wr.cell? ⟨g, 3, none⟩ = some (.int .i64 z3) := HB.out.cell 3
      have g4 : wr.cell? ⟨g, 4, none⟩ = some (.int .i64 z4) := HB.out.cell 4
      have g5 : wr.cell? ⟨g, 5, none⟩ = some (.int .i64 z5) := HB.out.cell 5
      have g6 : wr.cell? ⟨g, 6, none⟩ = some (.int .i64 z6) := HB.out.cell 6
      have g7 : wr.cell? ⟨g, 7, none⟩ = some (.int .i64 z7) := HB.out.cell 7
      have g8 : wr.cell? ⟨g, 8, none⟩ = some (.int .i64 z8) := HB.out.cell 8
      have g9 : wr.cell? ⟨g, 9, none⟩ = some (.int .i64 z9) := HB.out.cell 9
      have g10 : wr.cell? ⟨g, 10, none⟩ = some (.int .i64 z10) := HB.out.cell 10
      go_wp2
      go_roundw
      case rel => exact Or.inr ⟨rfl, rfl, hid ((Below.refl _ _).alloc (Nat.le_refl _) _)⟩
      case measure => simp [intOf]
    · go_wp2
      go_ret
      exact ⟨rfl, HB2.out⟩
set_option maxHeartbeats 2000000 in
theorem fromOne_any (g : Nat) (z1 z2 z3 z4 z5 z6 z7 z8 z9 z10 : Int) (w : World) (hb : Blk w g [.int .i64 1, .int .i64 z1, .int .i64 z2, .int .i64 z3, .int .i64 z4, .int .i64 z5, .int .i64 z6, .int .i64 z7, .int .i64 z8, .int .i64 z9, .int .i64 z10] 32) : Calls Try.prog 16 #[.slice (some ⟨g, 0, none⟩) 1 1, .int .i64 5] w fun r w' => ∃ b, r = .returned (.tuple #[P b, .int .i64 0]) ∧ w.heap.size ≤ b ∧ Tb w' b [[1, z1, z2, z3, z4, z5, z6, z7, z8, z9, z10]] 4 ∧ Below w.heap.size w w' := by
  have h32 : Hid (Calls Try.prog 32 #[.slice (some ⟨g, 0, none⟩) 1 1, .int .i64 5] w fun r w' => Out w (.bool true) r w') := riseOne_any g z1 z2 z3 z4 z5 z6 z7 z8 z9 z10 w hb
  have HB := hid hb
  unfold P
  unfold Out at h32
  clear hb
  go_enter Try.func16, Try.ntmps16
  go_wp2_with fail
  refine Calls.mono h32.out ?_
  rintro e w1 ⟨rfl, hb1⟩
  have HB1 := hid hb1
  obtain ⟨cs, hcs⟩ : ∃ cs, cs = ([1, z1, z2, z3, z4, z5, z6, z7, z8, z9, z10] : List Int).map I := ⟨_, rfl⟩
  have HBK : Hid (Blk w1 g cs 32) := by rw [hcs]; exact HB.out.below hb1 HB.out.lt
  clear hb1
  obtain ⟨TV, hTV⟩ : ∃ TV, tbL [] (List.replicate 40 (List.replicate 11 0)) 1 4 = TV := ⟨_, rfl⟩
  obtain ⟨W, hW⟩ : ∃ W, W = w1.alloc (.cells TV.toArray 60) := ⟨_, rfl⟩
  obtain ⟨b, hbb⟩ : ∃ b, b = w1.heap.size := ⟨_, rfl⟩
  have HBW : Hid (Blk W b (tbL [] (List.replicate 40 (List.replicate 11 0)) 1 4) 60) := by rw [hW, hbb, hTV]; exact Blk.new _ _ _
  have HGW : Hid (Blk W g cs 32) := by rw [hW]; exact HBK.out.alloc _
  have HBL : Hid (Below w.heap.size w W) := by rw [hW]; exact HB1.out.alloc HB1.out.size _
  have HBS : Hid (w.heap.size ≤ b) := by rw [hbb]; exact HB1.out.size
  have hlen : Hid (cs.length = 1 * 11) := by rw [hcs]; rfl
  have hone : Hid (∀ v ∈ cs, v.oneCell' = true) := by rw [hcs]; exact ent_one _
  have htl := tbL_length none_elev zeros_elev (by simp) 1 4
  have HTH : Hid (W.there b 0 cs.length) := HBW.out.there 0 _ (by rw [htl, hlen.out]; omega)
  have HCS : Hid (∀ j v, cs[j]? = some v → W.cell? ((⟨g, 0, none⟩ : Addr).add j) = some v) := fun j v hv => by rw [Addr.add_mid, Nat.zero_add, HGW.out.cell]; exact hv
  have HTB : Hid (Tb (W.setCells b 0 cs) b [[1, z1, z2, z3, z4, z5, z6, z7, z8, z9, z10]] 4) := by
    have hs := HBW.out.setCells cs 0 (by rw [htl, hlen.out]; omega)
    have e1 : over (tbL [] (List.replicate 40 (List.replicate 11 0)) 1 4) 0 cs = tbL [[1, z1, z2, z3, z4, z5, z6, z7, z8, z9, z10]] (List.replicate 39 (List.replicate 11 0)) 1 4 := by
      rw [hcs]; rfl
    rw [e1] at hs
    exact ⟨_, hs, Elev.cons.2 ⟨rfl, none_elev⟩, (fun e h => by rw [List.eq_of_mem_replicate h]; rfl), by simp⟩
  have HCS2 := hid (fun (_ : Nat) => hcs)
  have HTV := hid (fun (_ : Nat) => hTV)
  clear hcs htl HBW HGW HBK HB hTV
  go_upto_region 6 with (first
    | ((with_reducible refine wpL_build 1 4 ?_ ?_ ?_); (rfl); (rfl); (rw [HTV.out 0]); (simp only [Act.put, List.setIfInBounds_toArray, List.set_cons_zero, List.set_cons_succ])))
  rw [← hW, ← hbb]
  clear hW hbb
  go_wp2_with (first
    | ((with_reducible refine wpL_copyE b ⟨g, 0, none⟩ 1 1 cs ?_ ?_ (by omega) hlen.out HCS.out HTH.out hone.out ?_); (rfl); (rfl); (simp only [Act.put, List.setIfInBounds_toArray, List.set_cons_zero, List.set_cons_succ])))
  go_ret2
  exact ⟨b, rfl, HBS.out, HTB.out, Below.setCells HBL.out HBS.out _ _⟩
end Go.Proofs.Ytdagkeklfhlcnaa
