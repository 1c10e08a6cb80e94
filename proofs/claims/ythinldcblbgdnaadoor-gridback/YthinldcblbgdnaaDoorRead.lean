/- Read, and that the program is awake. -/
import Derived.Test.YthinldcblbgdnaaDoorReadRows
namespace Go.Proofs.YthinldcblbgdnaaDoor
open Go.RowKit
/-- The error of a text, and the map that is read. -/
def readE (s : ByteArray) : Int := if 1000 < s.size then 1 else if okRows s && formed (mapOf s) then 0 else 4
def readM (s : ByteArray) : Mp := if s.size ≤ 1000 ∧ (okRows s && formed (mapOf s)) = true then mapOf s else ⟨0, 0, [], []⟩
def OutRead (w : World) (s : ByteArray) (e : Ending) (w' : World) : Prop := ∃ v, e = .returned (.tuple #[v, .int .i64 (readE s)]) ∧ MapAt w' v (readM s) ∧ Below w.heap.size w w'
theorem Below.max {w w' : World} (h : Below w.heap.size w w') (hm : Max w) : Max w' := by
  obtain ⟨m, hm⟩ := hm
  exact ⟨m, by rw [h.cell (p := ⟨0, 0, none⟩) (lt_of_cell hm)]; exact hm⟩
/-- The result's block is written while what was made behind it stays. -/
theorem res_box {w wr : World} {b2 : Nat} {l : List Value} (hb : Below w.heap.size w wr) (hres : Blk wr b2 l 24) (hl : w.heap.size ≤ b2) (h4 : l.length = 4) (v0 v1 v2 v3 : Value) :
    Blk ((((wr.setCell ⟨b2, 0, none⟩ v0).setCell ⟨b2, 1, none⟩ v1).setCell ⟨b2, 2, none⟩ v2).setCell ⟨b2, 3, none⟩ v3) b2 [v0, v1, v2, v3] 24 ∧ Below w.heap.size w ((((wr.setCell ⟨b2, 0, none⟩ v0).setCell ⟨b2, 1, none⟩ v1).setCell ⟨b2, 2, none⟩ v2).setCell ⟨b2, 3, none⟩ v3) := by
  obtain ⟨a, b, c, d, rfl⟩ : ∃ a b c d, l = [a, b, c, d] := by
    match l, h4 with
    | [a, b, c, d], _ => exact ⟨a, b, c, d, rfl⟩
  refine ⟨(((hres.set 0 v0).set 1 v1).set 2 v2).set 3 v3, ?_⟩
  refine ⟨hb.os, hb.tape, hb.output, by simpa using hb.size, fun k hk => ?_⟩
  rw [Below.heap_setCell _ _ _ _ (by show k ≠ b2; omega), Below.heap_setCell _ _ _ _ (by show k ≠ b2; omega), Below.heap_setCell _ _ _ _ (by show k ≠ b2; omega), Below.heap_setCell _ _ _ _ (by show k ≠ b2; omega)]
  exact hb.block k hk
theorem IntsAt.set {w : World} {v : Value} {zs : List Int} (h : IntsAt w v zs) {b : Nat} {l : List Value} {t : TypeId} (hb : Blk w b l t) (hl : l.length < zs.length) (k : Nat) (u : Value) : IntsAt (w.setCell ⟨b, k, none⟩ u) v zs := by
  obtain ⟨p, cap, rfl, hc, hz, h⟩ := h
  refine ⟨p, cap, rfl, hc, hz, fun hn => ?_⟩
  obtain ⟨sb, so, rfl, hcell⟩ := h hn
  have hne : sb ≠ b := by
    rintro rfl
    have := hcell l.length hl
    rw [hb.cell] at this
    simp at this
  exact ⟨sb, so, rfl, fun i hi => keepCell (hcell i hi) hne k u⟩
theorem IntsAt.box4 {w : World} {v : Value} {zs : List Int} (h : IntsAt w v zs) {b : Nat} {l : List Value} {t : TypeId} (hb : Blk w b l t) (hl : l.length < zs.length) (v0 v1 v2 v3 : Value) :
    IntsAt ((((w.setCell ⟨b, 0, none⟩ v0).setCell ⟨b, 1, none⟩ v1).setCell ⟨b, 2, none⟩ v2).setCell ⟨b, 3, none⟩ v3) v zs :=
  (((h.set hb hl 0 v0).set (hb.set 0 v0) (by simpa using hl) 1 v1).set ((hb.set 0 v0).set 1 v1) (by simpa using hl) 2 v2).set (((hb.set 0 v0).set 1 v1).set 2 v2) (by simpa using hl) 3 v3
theorem formed_long {m : Mp} (h : formed m = true) : 16 ≤ m.ts.length ∧ 16 ≤ m.os.length := by
  obtain ⟨h1, h2, h3, h4, -⟩ := formed_of h
  have := prod_bound h1 h2
  omega
set_option maxHeartbeats 4000000 in
theorem read_any (s : ByteArray) (w : World) (hx : Max w) : Calls Tryd.prog 10 #[.string s] w fun e w' => OutRead w s e w' := by
  have h15 : Hid (∀ W v m, MapAt W v m → Calls Tryd.prog 15 #[v] W fun e w' => Out W (.bool (formed m)) e w') := fun W v m h => formed_any m v W h
  have HX := hid hx
  have hz0 := Blk.new w [I 0, I 0, .slice none 0 0, .slice none 0 0] 24
  have HBN : Hid (Below w.heap.size w (w.alloc (.cells [I 0, I 0, .slice none 0 0, .slice none 0 0].toArray 24))) := (Below.refl _ _).alloc (Nat.le_refl _) _
  clear hx
  by_cases hs : 1000 < s.size
  · have hs' : (1000 : Int) < (s.size : Int) := by omega
    have he : readE s = 1 := by rw [readE, if_pos hs]
    have hm : readM s = ⟨0, 0, [], []⟩ := by rw [readM, if_neg (by omega)]
    unfold OutRead
    rw [he, hm]
    go_enter Tryd.func10, Tryd.ntmps10
    go_wp2
    exact bodyPost_ret (results_cell_tmp Tryd.results10 rfl rfl hz0 Tryd.underlying24 rfl size24) rfl ⟨_, rfl, zero_map _, HBN.out⟩
  · have hs' : ((1000 : Int) < (s.size : Int)) = False := by simp; omega
    have h30 : Hid (∀ W, Max W → Calls Tryd.prog 30 #[.string s] W fun e w' => OutRows W s e w') := fun W h => readRows_any s (by omega) W h
    have HE : Hid (readE s = if okRows s && formed (mapOf s) then 0 else 4) := by show _ = _; rw [readE, if_neg hs]
    have HM : Hid (readM s = if okRows s && formed (mapOf s) then mapOf s else ⟨0, 0, [], []⟩) := by
      show _ = _
      rw [readM]
      by_cases h : (okRows s && formed (mapOf s)) = true
      · rw [if_pos ⟨by omega, h⟩, if_pos h]
      · rw [if_neg (fun h' => h h'.2), if_neg h]
    unfold OutRead
    unfold OutRows at h30
    generalize readE s = E at *
    generalize readM s = M at *
    generalize mapOf s = m at *
    generalize okRows s = ok at *
    go_enter Tryd.func10, Tryd.ntmps10
    go_wp2_with fail
    refine Calls.mono (h30.out _ (Below.max HBN.out HX.out)) ?_
    rintro e w1 ⟨v, rfl, hm1, hb1⟩
    have hz1 := hz0.below hb1 (by simp)
    have HB1 := hid (HBN.out.trans (hb1.mono (by simp)))
    have HMM := hid hm1
    obtain ⟨b2, hb2⟩ : ∃ b2, b2 = w.heap.size := ⟨_, rfl⟩
    rw [← hb2] at hz1 ⊢
    have HB2 := hid (fun (_ : Nat) => hb2)
    have HZ1 := hid hz1
    obtain ⟨p, c, q, d, rfl, -, -⟩ := hm1
    obtain ⟨a, b, ts, os⟩ := m
    simp only at HMM ⊢
    generalize ts.length = TN at *
    generalize os.length = ON at *
    clear hb1 hb2 hz1 hz0 HBN
    obtain ⟨W, hW⟩ : ∃ W, W = w1.alloc (.cells #[Value.int .i64 a, .int .i64 b, .slice p TN c, .slice q ON d] 24) := ⟨_, rfl⟩
    obtain ⟨B, hB⟩ : ∃ B, B = w1.heap.size := ⟨_, rfl⟩
    have HBW : Hid (Below w.heap.size w W) := by rw [hW]; exact HB1.out.alloc HB1.out.size _
    have HZW : Hid (Blk W b2 [I 0, I 0, .slice none 0 0, .slice none 0 0] 24) := by rw [hW]; exact HZ1.out.alloc _
    have HMW : Hid (MapAt W (.agg #[.int .i64 a, .int .i64 b, .slice p TN c, .slice q ON d]) ⟨a, b, ts, os⟩) := by rw [hW]; exact HMM.out.below ((Below.refl _ _).alloc (Nat.le_refl _) _)
    obtain ⟨hk, -⟩ := map_box w1 a b (.slice p TN c) (.slice q ON d) W B hW hB
    have HK := hid hk
    clear hk
    go_upto_region 4 with fail
    rw [← hW, ← hB]
    obtain ⟨a0, a1, a2, a3⟩ := HK.out W (Below.refl _ _)
    clear hW hB HB1 HZ1 HMM
    rcases ok with _ | _
    · have hE : E = 4 := by have := HE.out; simpa using this
      have hM : M = ⟨0, 0, [], []⟩ := by have := HM.out; simpa using this
      subst hE hM
      have hC0 : W.cell? ⟨b2, 0, none⟩ = some (.int .i64 0) := HZW.out.cell 0
      have hC1 : W.cell? ⟨b2, 1, none⟩ = some (.int .i64 0) := HZW.out.cell 1
      have hC2 : W.cell? ⟨b2, 2, none⟩ = some (.slice none 0 0) := HZW.out.cell 2
      have hC3 : W.cell? ⟨b2, 3, none⟩ = some (.slice none 0 0) := HZW.out.cell 3
      have hF0 := HZW.out.frozen 0
      have hF1 := HZW.out.frozen 1
      have hF2 := HZW.out.frozen 2
      have hF3 := HZW.out.frozen 3
      go_wp2
      obtain ⟨z1, z2⟩ := res_box HBW.out HZW.out (by have := HB2.out 0; omega) rfl (I 0) (I 0) (.slice none 0 0) (.slice none 0 0)
      exact bodyPost_ret (results_cell_tmp Tryd.results10 rfl rfl z1 Tryd.underlying24 rfl size24) rfl ⟨_, rfl, zero_map _, z2⟩
    · go_wp2_with fail
      refine Calls.mono (h15.out _ _ _ HMW.out) ?_
      rintro e w2 ⟨rfl, hb2⟩
      have HB3 := hid hb2
      have HZ2 := hid (HZW.out.below hb2 HZW.out.lt)
      have HBW2 := hid (HBW.out.trans (hb2.mono HBW.out.size))
      have HMW2 := hid (HMW.out.below hb2)
      obtain ⟨b0, b1, b3, b4⟩ := HK.out w2 hb2
      clear hb2 a0 a1 a2 a3 HBW HZW HMW
      have hC0 : w2.cell? ⟨b2, 0, none⟩ = some (.int .i64 0) := HZ2.out.cell 0
      have hC1 : w2.cell? ⟨b2, 1, none⟩ = some (.int .i64 0) := HZ2.out.cell 1
      have hC2 : w2.cell? ⟨b2, 2, none⟩ = some (.slice none 0 0) := HZ2.out.cell 2
      have hC3 : w2.cell? ⟨b2, 3, none⟩ = some (.slice none 0 0) := HZ2.out.cell 3
      have hF0 := HZ2.out.frozen 0
      have hF1 := HZ2.out.frozen 1
      have hF2 := HZ2.out.frozen 2
      have hF3 := HZ2.out.frozen 3
      have HLG : Hid (formed ⟨a, b, ts, os⟩ = true → 16 ≤ ts.length ∧ 16 ≤ os.length) := fun h => formed_long h
      generalize formed ⟨a, b, ts, os⟩ = F at *
      rcases F with _ | _
      · have hE : E = 4 := by have := HE.out; simpa using this
        have hM : M = ⟨0, 0, [], []⟩ := by have := HM.out; simpa using this
        subst hE hM
        go_wp2
        obtain ⟨z1, z2⟩ := res_box HBW2.out HZ2.out (by have := HB2.out 0; omega) rfl (I 0) (I 0) (.slice none 0 0) (.slice none 0 0)
        exact bodyPost_ret (results_cell_tmp Tryd.results10 rfl rfl z1 Tryd.underlying24 rfl size24) rfl ⟨_, rfl, zero_map _, z2⟩
      · have hE : E = 0 := by have := HE.out; simpa using this
        have hM : M = ⟨a, b, ts, os⟩ := by have := HM.out; simpa using this
        subst hE hM
        go_wp2
        obtain ⟨z1, z2⟩ := res_box HBW2.out HZ2.out (by have := HB2.out 0; omega) rfl (I a) (I b) (.slice p TN c) (.slice q ON d)
        have hl := HLG.out (by trivial)
        have hmm : MapAt ((((w2.setCell ⟨b2, 0, none⟩ (I a)).setCell ⟨b2, 1, none⟩ (I b)).setCell ⟨b2, 2, none⟩ (.slice p TN c)).setCell ⟨b2, 3, none⟩ (.slice q ON d)) (.agg #[.int .i64 a, .int .i64 b, .slice p TN c, .slice q ON d]) ⟨a, b, ts, os⟩ := by
          obtain ⟨p', c', q', d', he, h1, h2⟩ := HMW2.out
          simp at he
          obtain ⟨⟨rfl, rfl, rfl⟩, rfl, rfl, rfl⟩ := he
          exact ⟨p, c, q, d, rfl, h1.box4 HZ2.out (by simp; omega) _ _ _ _, h2.box4 HZ2.out (by simp; omega) _ _ _ _⟩
        exact bodyPost_ret (results_cell_tmp Tryd.results10 rfl rfl z1 Tryd.underlying24 rfl size24) rfl ⟨_, rfl, hmm, z2⟩
def awk : ByteArray := ⟨#[46, 46, 46, 46, 10, 46, 35, 46, 46, 10, 46, 46, 51, 46, 10, 46, 46, 46, 46, 10]⟩
def awkM : Mp := ⟨4, 4, [0, 0, 0, 0, 0, 1, 0, 0, 0, 0, 2, 0, 0, 0, 0, 0], [0, 0, 0, 0, 0, 0, 0, 0, 0, 0, 30, 0, 0, 0, 0, 0]⟩
theorem awk_reads : readE awk = 0 := by decide +kernel
theorem awk_map : readM awk = awkM := by kernel_rfl
set_option maxHeartbeats 4000000 in
theorem awake_any (w : World) (hx : Max w) : Calls Tryd.prog 8 #[] w fun e w' => Out w (.bool true) e w' := by
  have h10 : Hid (∀ W, Max W → Calls Tryd.prog 10 #[.string awk] W fun e w' => ∃ v, e = .returned (.tuple #[v, .int .i64 0]) ∧ MapAt w' v awkM ∧ Below W.heap.size W w') := fun W h => by
    have := read_any awk W h
    unfold OutRead at this
    rw [awk_reads, awk_map] at this
    exact this
  have h15 : Hid (∀ W v, MapAt W v awkM → Calls Tryd.prog 15 #[v] W fun e w' => Out W (.bool true) e w') := fun W v h => by
    have := formed_any awkM v W h
    rwa [show formed awkM = true by decide +kernel] at this
  have h19 : Hid (∀ W v, MapAt W v awkM → Calls Tryd.prog 19 #[v, C 1 1] W fun e w' => Out W (.bool false) e w') := fun W v h => by
    have := free_any awkM v 1 1 W h
    rwa [show free awkM 1 1 = false by decide +kernel] at this
  have HX := hid hx
  clear hx
  unfold awk at h10
  unfold C at h19
  unfold Out
  go_enter Tryd.func8, Tryd.ntmps8
  go_wp2_with fail
  refine Calls.mono (h10.out _ HX.out) ?_
  rintro e w1 ⟨v, rfl, hm1, hb1⟩
  have HB1 := hid hb1
  have HMM := hid hm1
  have hlen : Hid (awkM.W = 4 ∧ awkM.H = 4 ∧ awkM.ts.length = 16 ∧ awkM.os.length = 16 ∧ awkM.os.getD 10 0 = 30) := ⟨rfl, rfl, rfl, rfl, rfl⟩
  obtain ⟨p, c, q, d, rfl, -, ho⟩ := hm1
  rw [hlen.out.1, hlen.out.2.1, hlen.out.2.2.1, hlen.out.2.2.2.1] at HMM ⊢
  rw [hlen.out.2.2.2.1] at ho
  obtain ⟨rb, ro, rfl, hcell⟩ := ho.pos 0 (by omega)
  have hc10 := hcell 10 (by omega)
  rw [hlen.out.2.2.2.2] at hc10
  have HC10 := hid hc10
  generalize awkM = m at *
  clear ho hcell hc10 hb1
  obtain ⟨W, hW⟩ : ∃ W, W = w1.alloc (.cells #[Value.int .i64 4, .int .i64 4, .slice p 16 c, .slice (some ⟨rb, ro, none⟩) 16 d] 24) := ⟨_, rfl⟩
  obtain ⟨B, hB⟩ : ∃ B, B = w1.heap.size := ⟨_, rfl⟩
  have HAL : Hid (Below w1.heap.size w1 W) := by rw [hW]; exact (Below.refl _ _).alloc (Nat.le_refl _) _
  have HBW : Hid (Below w.heap.size w W) := HB1.out.trans (HAL.out.mono HB1.out.size)
  have HMW : Hid (MapAt W (.agg #[.int .i64 4, .int .i64 4, .slice p 16 c, .slice (some ⟨rb, ro, none⟩) 16 d]) m) := HMM.out.below HAL.out
  have HCW : Hid (∀ W', Below W.heap.size W W' → W'.cell? ⟨rb, ro + 10, none⟩ = some (.int .i64 30)) := fun W' h => by
    have h1 : W.cell? ⟨rb, ro + 10, none⟩ = some (.int .i64 30) := by rw [HAL.out.cell (p := ⟨rb, ro + 10, none⟩) (lt_of_cell HC10.out)]; exact HC10.out
    rw [h.cell (p := ⟨rb, ro + 10, none⟩) (lt_of_cell h1)]; exact h1
  obtain ⟨hk, -⟩ := map_box w1 4 4 (.slice p 16 c) (.slice (some ⟨rb, ro, none⟩) 16 d) W B hW hB
  have HK := hid hk
  clear hk
  go_upto_region 2 with fail
  rw [← hW, ← hB]
  obtain ⟨a0, a1, a2, a3⟩ := HK.out W (Below.refl _ _)
  clear hW hB HB1 HMM HAL HC10 hlen
  go_wp2_with fail
  refine Calls.mono (h15.out _ _ HMW.out) ?_
  rintro e w2 ⟨rfl, hb2⟩
  have HB2 := hid hb2
  obtain ⟨b0, b1, b2, b3⟩ := HK.out w2 hb2
  clear hb2
  go_wp2_with fail
  refine Calls.mono (h19.out _ _ (HMW.out.below HB2.out)) ?_
  rintro e w3 ⟨rfl, hb3⟩
  have HB3 := hid (HB2.out.trans (hb3.mono HB2.out.size))
  obtain ⟨c0, c1, c2, c3⟩ := HK.out w3 HB3.out
  have c10 := HCW.out w3 HB3.out
  clear hb3
  go_wp2
  go_ret
  exact ⟨rfl, HBW.out.trans (HB3.out.mono HBW.out.size)⟩
end Go.Proofs.YthinldcblbgdnaaDoor
