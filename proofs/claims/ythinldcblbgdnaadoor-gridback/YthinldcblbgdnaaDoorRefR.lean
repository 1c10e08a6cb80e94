/- The reference's Read 11. -/
import Derived.Test.YthinldcblbgdnaaDoorRlink
import Derived.Test.YthinldcblbgdnaaDoorRefF
namespace Go.Proofs.YthinldcblbgdnaaDoor
open Go.RowKit
/-- While a text is read: the result still zero in block b2, the map in block b4 with tiles ts and ore os in rows of their own. -/
structure Rq (w : World) (b2 b4 : Nat) (a b : Int) (ts os : List Int) (tv ov : Value) (wr : World) : Prop where
  be : Below w.heap.size w wr
  res : Blk wr b2 [I 0, I 0, .slice none 0 0, .slice none 0 0] 24
  mp : Blk wr b4 [I a, I b, tv, ov] 24
  own1 : OwnI wr (b4 + 1) tv ts
  own2 : OwnI wr (b4 + 1) ov os
  apart : ∀ k, tv.ownBlock = some k → ov.ownBlock ≠ some k
  low2 : w.heap.size ≤ b2 ∧ b2 < b4
theorem Rq.tile {w wr wr' : World} {b2 b7 : Nat} {a b : Int} {ts os : List Int} {tv ov tv' : Value} {t : Int} (h : Rq w b2 b7 a b ts os tv ov wr) (o : Obj) (hg : Gro (wr.alloc o) tv wr' tv') (ho : OwnI wr' (b7 + 1) tv' (ts ++ [t])) :
    Rq w b2 b7 a b (ts ++ [t]) os tv' ov (wr'.setCell ⟨b7, 2, none⟩ tv') := by
  have l7 := h.mp.lt
  have l2 := h.low2
  have hne : ∀ k, k ≤ b7 → tv.ownBlock ≠ some k := fun k hk e => by have := (h.own1.block k e).1; omega
  have r1 := (hg.blk (h.res.alloc o) (hne _ (by omega))).set_ne ⟨b7, 2, none⟩ (by show b2 ≠ b7; omega) tv'
  have r3 := (hg.blk (h.mp.alloc o) (hne _ (by omega))).set 2 tv'
  have hset : ∀ k, b7 + 1 ≤ k → (wr'.setCell ⟨b7, 2, none⟩ tv').heap[k]? = wr'.heap[k]? := fun k hk => Below.heap_setCell _ _ _ _ (by show k ≠ b7; omega)
  have hal : ∀ k, k < wr.heap.size → tv.ownBlock ≠ some k → wr'.heap[k]? = wr.heap[k]? := fun k hk hn => (hg.block k (by simp; omega) hn).trans (Below.heap_alloc _ _ _ hk)
  refine ⟨?_, r1, r3, ho.stay fun k hk => hset k (ho.block k hk).1, h.own2.stay fun k hk => ?_, fun k hk he => ?_, l2⟩
  · refine h.be.trans ⟨hg.os, hg.tape, hg.output, ?_, fun k hk => ?_⟩
    · have := hg.size
      simp at this
      simp; omega
    · rw [Below.heap_setCell _ _ _ _ (by show k ≠ b7; omega)]
      exact hal k (by have := h.be.size; omega) (hne k (by omega))
  · have hb := h.own2.block k hk
    rw [hset k hb.1]
    exact hal k hb.2 (fun e => h.apart k e hk)
  · have hb := h.own2.block k he
    rcases hg.pl with hp | hp
    · exact h.apart k (hp ▸ hk) he
    · have := hp k hk
      simp at this; omega
theorem Rq.ore {w wr wr' : World} {b2 b7 : Nat} {a b : Int} {ts os : List Int} {tv ov ov' : Value} {t : Int} (h : Rq w b2 b7 a b ts os tv ov wr) (o : Obj) (hg : Gro (wr.alloc o) ov wr' ov') (ho : OwnI wr' (b7 + 1) ov' (os ++ [t])) :
    Rq w b2 b7 a b ts (os ++ [t]) tv ov' (wr'.setCell ⟨b7, 3, none⟩ ov') := by
  have l7 := h.mp.lt
  have l2 := h.low2
  have hne : ∀ k, k ≤ b7 → ov.ownBlock ≠ some k := fun k hk e => by have := (h.own2.block k e).1; omega
  have r1 := (hg.blk (h.res.alloc o) (hne _ (by omega))).set_ne ⟨b7, 3, none⟩ (by show b2 ≠ b7; omega) ov'
  have r3 := (hg.blk (h.mp.alloc o) (hne _ (by omega))).set 3 ov'
  have hset : ∀ k, b7 + 1 ≤ k → (wr'.setCell ⟨b7, 3, none⟩ ov').heap[k]? = wr'.heap[k]? := fun k hk => Below.heap_setCell _ _ _ _ (by show k ≠ b7; omega)
  have hal : ∀ k, k < wr.heap.size → ov.ownBlock ≠ some k → wr'.heap[k]? = wr.heap[k]? := fun k hk hn => (hg.block k (by simp; omega) hn).trans (Below.heap_alloc _ _ _ hk)
  refine ⟨?_, r1, r3, h.own1.stay fun k hk => ?_, ho.stay fun k hk => hset k (ho.block k hk).1, fun k hk he => ?_, l2⟩
  · refine h.be.trans ⟨hg.os, hg.tape, hg.output, ?_, fun k hk => ?_⟩
    · have := hg.size
      simp at this
      simp; omega
    · rw [Below.heap_setCell _ _ _ _ (by show k ≠ b7; omega)]
      exact hal k (by have := h.be.size; omega) (hne k (by omega))
  · have hb := h.own1.block k hk
    rw [hset k hb.1]
    exact hal k hb.2 (fun e => h.apart k hk e)
  · have hb := h.own1.block k hk
    rcases hg.pl with hp | hp
    · exact h.apart k hk (hp ▸ he)
    · have := hp k he
      simp at this; omega
/-- A number of the map is set. -/
theorem Rq.side {w wr : World} {b2 b4 : Nat} {a b : Int} {ts os : List Int} {tv ov : Value} (h : Rq w b2 b4 a b ts os tv ov wr) (j : Nat) (hj : j < 2) (z : Int) : Rq w b2 b4 (if j = 0 then z else a) (if j = 1 then z else b) ts os tv ov (wr.setCell ⟨b4, j, none⟩ (I z)) := by
  have l2 := h.low2
  have hset : ∀ k, k ≠ b4 → (wr.setCell ⟨b4, j, none⟩ (I z)).heap[k]? = wr.heap[k]? := fun k hk => Below.heap_setCell _ _ _ _ hk
  refine ⟨h.be.setCell (by show w.heap.size ≤ b4; omega) _, h.res.set_ne _ (by show b2 ≠ b4; omega) _, ?_, h.own1.stay fun k hk => hset k (by have := (h.own1.block k hk).1; omega), h.own2.stay fun k hk => hset k (by have := (h.own2.block k hk).1; omega), h.apart, l2⟩
  have h1 := h.mp.set j (I z)
  have hj2 : j = 0 ∨ j = 1 := by omega
  rcases hj2 with rfl | rfl
  · exact h1
  · exact h1
/-- What is handed back where the text is wrong. -/
theorem Rq.zero {w wr : World} {b2 b4 : Nat} {a b : Int} {ts os : List Int} {tv ov : Value} (h : Rq w b2 b4 a b ts os tv ov wr) (v0 v1 v2 v3 : Value) :
    Blk ((((wr.setCell ⟨b2, 0, none⟩ v0).setCell ⟨b2, 1, none⟩ v1).setCell ⟨b2, 2, none⟩ v2).setCell ⟨b2, 3, none⟩ v3) b2 [v0, v1, v2, v3] 24 ∧ Below w.heap.size w ((((wr.setCell ⟨b2, 0, none⟩ v0).setCell ⟨b2, 1, none⟩ v1).setCell ⟨b2, 2, none⟩ v2).setCell ⟨b2, 3, none⟩ v3) :=
  res_box h.be h.res h.low2.1 rfl v0 v1 v2 v3
theorem Rq.done {w wr : World} {b2 b4 : Nat} {a b : Int} {ts os : List Int} {p q : Option Addr} {c d : Nat} (h : Rq w b2 b4 a b ts os (.slice p ts.length c) (.slice q os.length d) wr) (v0 v1 v2 v3 : Value) :
    MapAt ((((wr.setCell ⟨b2, 0, none⟩ v0).setCell ⟨b2, 1, none⟩ v1).setCell ⟨b2, 2, none⟩ v2).setCell ⟨b2, 3, none⟩ v3) (.agg #[.int .i64 a, .int .i64 b, .slice p ts.length c, .slice q os.length d]) ⟨a, b, ts, os⟩ := by
  have l := h.low2
  have e : ∀ k, b4 + 1 ≤ k → ((((wr.setCell ⟨b2, 0, none⟩ v0).setCell ⟨b2, 1, none⟩ v1).setCell ⟨b2, 2, none⟩ v2).setCell ⟨b2, 3, none⟩ v3).heap[k]? = wr.heap[k]? := fun k hk => by
    rw [Below.heap_setCell _ _ _ _ (by show k ≠ b2; omega), Below.heap_setCell _ _ _ _ (by show k ≠ b2; omega), Below.heap_setCell _ _ _ _ (by show k ≠ b2; omega), Below.heap_setCell _ _ _ _ (by show k ≠ b2; omega)]
  exact ⟨p, c, q, d, rfl, (h.own1.stay fun k hk => e k (h.own1.block k hk).1).ints, (h.own2.stay fun k hk => e k (h.own2.block k hk).1).ints⟩
theorem Rq.below {w wr wr' : World} {b2 b4 : Nat} {a b : Int} {ts os : List Int} {tv ov : Value} (h : Rq w b2 b4 a b ts os tv ov wr) (hb : Below wr.heap.size wr wr') : Rq w b2 b4 a b ts os tv ov wr' :=
  ⟨h.be.trans (hb.mono h.be.size), h.res.below hb h.res.lt, h.mp.below hb h.mp.lt, h.own1.below hb, h.own2.below hb, h.apart, h.low2⟩
theorem Rq.map {w wr : World} {b2 b4 : Nat} {a b : Int} {ts os : List Int} {p q : Option Addr} {c d : Nat} (h : Rq w b2 b4 a b ts os (.slice p ts.length c) (.slice q os.length d) wr) : MapAt wr (.agg #[.int .i64 a, .int .i64 b, .slice p ts.length c, .slice q os.length d]) ⟨a, b, ts, os⟩ :=
  ⟨p, c, q, d, rfl, h.own1.ints, h.own2.ints⟩
/-- The state behind one byte more. -/
theorem refAt_take {s : ByteArray} {i : Nat} (hi : i < s.size) : refAt k8 t8 o8 (s.data.toList.take (i + 1)) = refStep k8 t8 o8 (refAt k8 t8 o8 (s.data.toList.take i)) s[i] := by
  have hl : i < s.data.toList.length := by rw [← Lib.size_eq]; exact hi
  rw [List.take_succ_eq_append_getElem hl, refAt_snoc]
  rfl
theorem refAt_bad {s : ByteArray} {i : Nat} (h : refAt k8 t8 o8 (s.data.toList.take i) = none) : refAt k8 t8 o8 s.data.toList = none := by
  have := refAt_none k8 t8 o8 _ (s.data.toList.drop i) h
  rwa [List.take_append_drop] at this
theorem step_nat (W H x : Nat) (ts os : List Int) (c : UInt8) : refStep k8 t8 o8 (some (W, H, x, ts, os)) c = if c.toNat = 10 then (if x = (if H = 0 then x else W) then some ((if H = 0 then x else W), H + 1, 0, ts, os) else none) else if sgnK c.toNat = true then some (W, H, x + 1, ts ++ [sgnT c.toNat], os ++ [sgnO c.toNat]) else none := by
  have e : (c = 10) ↔ c.toNat = 10 := by rw [← UInt8.toNat_inj]; rfl
  unfold refStep k8 t8 o8
  simp only [e]
set_option maxHeartbeats 8000000 in
theorem refRead_any (s : ByteArray) (w : World) : Calls Tryd.prog 11 #[.string s] w fun e w' => OutRead w s e w' := by
  have h16 : Hid (∀ W v m, MapAt W v m → Calls Tryd.prog 16 #[v] W fun e w' => Out W (.bool (formed m)) e w') := fun W v m h => refFormed_any m v W h
  have hz0 := Blk.new w [I 0, I 0, .slice none 0 0, .slice none 0 0] 24
  have hbn : Below w.heap.size w (w.alloc (.cells [I 0, I 0, .slice none 0 0, .slice none 0 0].toArray 24)) := (Below.refl _ _).alloc (Nat.le_refl _) _
  by_cases hs : 1000 < s.size
  · have hs' : (1000 : Int) < (s.size : Int) := by omega
    have he : readE s = 1 := by rw [readE, if_pos hs]
    have hm : readM s = ⟨0, 0, [], []⟩ := by rw [readM, if_neg (by omega)]
    unfold OutRead
    rw [he, hm]
    obtain ⟨V, hV⟩ : ∃ V, V = w.alloc (.cells #[Value.int .i64 0, .int .i64 0, .slice none 0 0, .slice none 0 0] 24) := ⟨_, rfl⟩
    obtain ⟨b2, hb2⟩ : ∃ b, b = w.heap.size := ⟨_, rfl⟩
    have HZ : Hid (Blk V b2 [I 0, I 0, .slice none 0 0, .slice none 0 0] 24) := by rw [hV, hb2]; exact hid hz0
    have HB : Hid (Below w.heap.size w V) := by rw [hV]; exact hid hbn
    have HL : Hid (w.heap.size ≤ b2) := by rw [hb2]; exact hid (Nat.le_refl _)
    clear hz0 hbn
    go_enter Tryd.func11, Tryd.ntmps11
    go_upto_region 1 with fail
    rw [← hV, ← hb2]
    clear hV hb2
    have hC0 : V.cell? ⟨b2, 0, none⟩ = some (.int .i64 0) := HZ.out.cell 0
    have hC1 : V.cell? ⟨b2, 1, none⟩ = some (.int .i64 0) := HZ.out.cell 1
    have hC2 : V.cell? ⟨b2, 2, none⟩ = some (.slice none 0 0) := HZ.out.cell 2
    have hC3 : V.cell? ⟨b2, 3, none⟩ = some (.slice none 0 0) := HZ.out.cell 3
    have hF0 := HZ.out.frozen 0
    have hF1 := HZ.out.frozen 1
    have hF2 := HZ.out.frozen 2
    have hF3 := HZ.out.frozen 3
    go_wp2
    obtain ⟨z1, z2⟩ := res_box HB.out HZ.out HL.out rfl (I 0) (I 0) (.slice none 0 0) (.slice none 0 0)
    exact bodyPost_ret (results_cell_tmp Tryd.results11 rfl rfl z1 Tryd.underlying24 rfl size24) rfl ⟨_, rfl, zero_map _, z2⟩
  · have hs' : ((1000 : Int) < (s.size : Int)) = False := by simp; omega
    have hsz : s.size ≤ 1000 := by omega
    have HBAD : Hid (refAt k8 t8 o8 s.data.toList = none → readE s = 4 ∧ readM s = ⟨0, 0, [], []⟩) := fun h => ref_none hsz h
    have HOK : Hid (∀ (W H x : Nat) (ts os : List Int), refAt k8 t8 o8 s.data.toList = some (W, H, x, ts, os) → readE s = (if x = 0 ∧ formed ⟨(W : Int), (H : Int), ts, os⟩ = true then 0 else 4) ∧ readM s = (if x = 0 ∧ formed ⟨(W : Int), (H : Int), ts, os⟩ = true then ⟨(W : Int), (H : Int), ts, os⟩ else ⟨0, 0, [], []⟩)) := fun W H x ts os h => ref_some hsz h
    unfold OutRead
    generalize readE s = E at *
    generalize readM s = M at *
    obtain ⟨V, hV⟩ : ∃ V, V = (w.alloc (.cells #[Value.int .i64 0, .int .i64 0, .slice none 0 0, .slice none 0 0] 24)).alloc (.cells #[Value.int .i64 0, .int .i64 0, .slice none 0 0, .slice none 0 0] 24) := ⟨_, rfl⟩
    obtain ⟨b2, hb2⟩ : ∃ b, b = w.heap.size := ⟨_, rfl⟩
    have HRQ : Hid (Rq w b2 (b2 + 1) ((0 : Nat) : Int) ((0 : Nat) : Int) [] [] (.slice none 0 0) (.slice none 0 0) V) := by
      rw [hV, hb2]
      exact ⟨hbn.alloc hbn.size _, hz0.alloc _, Blk.new' _ _ _ _ (by simp), OwnI.nil _ _, OwnI.nil _ _, (fun k hk => by simp [Value.ownBlock] at hk), by omega⟩
    clear hz0 hbn
    go_enter Tryd.func11, Tryd.ntmps11
    go_upto_region 4 with fail
    rw [← hV, ← hb2]
    clear hV hb2
    go_wp2_with fail
    go_loopw [5, 6] (fun xv iv wr => ∃ (i W H x N : Nat) (ts os : List Int) (p q : Option Addr) (c d : Nat), i ≤ s.size ∧ xv = .int .i64 (x : Int) ∧ iv = .int .i64 (i : Int) ∧ N ≤ i ∧ x ≤ i ∧ H ≤ i ∧ W ≤ i ∧ Hid (ts.length = N ∧ os.length = N) ∧ Hid (refAt k8 t8 o8 (s.data.toList.take i) = some (W, H, x, ts, os)) ∧ Hid (Rq w b2 (b2 + 1) (W : Int) (H : Int) ts os (.slice p N c) (.slice q N d) wr)) (fun _ iv _ => s.size - (intOf iv).toNat)
    case atStart => exact ⟨0, 0, 0, 0, 0, [], [], none, none, 0, 0, by omega, rfl, rfl, by omega, by omega, by omega, by omega, ⟨rfl, rfl⟩, rfl, HRQ⟩
    case round =>
      clear HRQ
      obtain ⟨i, W, H, x, N, ts, os, p, q, c, d, hi, rfl, rfl, hN, hx, hH, hW, HN, HST, HRQ⟩ := hrel
      have hC0 : wr.cell? ⟨b2, 0, none⟩ = some (.int .i64 0) := HRQ.out.res.cell 0
      have hC1 : wr.cell? ⟨b2, 1, none⟩ = some (.int .i64 0) := HRQ.out.res.cell 1
      have hC2 : wr.cell? ⟨b2, 2, none⟩ = some (.slice none 0 0) := HRQ.out.res.cell 2
      have hC3 : wr.cell? ⟨b2, 3, none⟩ = some (.slice none 0 0) := HRQ.out.res.cell 3
      have hF0 := HRQ.out.res.frozen 0
      have hF1 := HRQ.out.res.frozen 1
      have hF2 := HRQ.out.res.frozen 2
      have hF3 := HRQ.out.res.frozen 3
      have hD0 : wr.cell? ⟨b2 + 1, 0, none⟩ = some (.int .i64 (W : Int)) := HRQ.out.mp.cell 0
      have hD1 : wr.cell? ⟨b2 + 1, 1, none⟩ = some (.int .i64 (H : Int)) := HRQ.out.mp.cell 1
      have hD2 : wr.cell? ⟨b2 + 1, 2, none⟩ = some (.slice p N c) := HRQ.out.mp.cell 2
      have hD3 : wr.cell? ⟨b2 + 1, 3, none⟩ = some (.slice q N d) := HRQ.out.mp.cell 3
      have hG0 := HRQ.out.mp.frozen 0
      have hG1 := HRQ.out.mp.frozen 1
      by_cases hl : i < s.size
      · have hl' : (i : Int) < (s.size : Int) := by omega
        have hl0 : (0 : Int) ≤ (i : Int) := by omega
        have HS2 : Hid (refAt k8 t8 o8 (s.data.toList.take (i + 1)) = refStep k8 t8 o8 (some (W, H, x, ts, os)) s[i]) := by
          have h1 := refAt_take hl
          rw [HST.out] at h1
          exact hid h1
        rw [step_nat] at HS2
        have HNO : Hid (refAt k8 t8 o8 (s.data.toList.take (i + 1)) = none → E = 4 ∧ M = ⟨0, 0, [], []⟩) := fun h => HBAD.out (refAt_bad h)
        have hb := UInt8.toNat_lt s[i]
        clear HST
        go_upto_region 9 with fail
        generalize s[i].toNat = b at *
        by_cases h10 : b = 10
        · subst h10
          rw [if_pos rfl] at HS2
          by_cases hH0 : H = 0
          · subst hH0
            have HS3 : Hid (refAt k8 t8 o8 (s.data.toList.take (i + 1)) = some (x, 1, 0, ts, os)) := by have := HS2.out; rw [if_pos rfl, if_pos rfl] at this; exact hid this
            have HR2 : Hid (Rq w b2 (b2 + 1) (x : Int) ((1 : Nat) : Int) ts os (.slice p N c) (.slice q N d) ((wr.setCell ⟨b2 + 1, 0, none⟩ (.int .i64 (x : Int))).setCell ⟨b2 + 1, 1, none⟩ (.int .i64 1))) := hid ((HRQ.out.side 0 (by omega) (x : Int)).side 1 (by omega) 1)
            clear HS2 HNO
            go_wp2
            go_roundw
            case rel => exact ⟨i + 1, x, 1, 0, N, ts, os, p, q, c, d, by omega, by simp, by simp, by omega, by omega, by omega, by omega, HN, HS3, HR2⟩
            case measure => simp [intOf]; omega
          · have hH' : ((H : Int) == 0) = false := by simp; exact hH0
            rw [if_neg hH0] at HS2
            by_cases hxW : x = W
            · subst hxW
              have HS3 : Hid (refAt k8 t8 o8 (s.data.toList.take (i + 1)) = some (x, H + 1, 0, ts, os)) := by have := HS2.out; rw [if_pos rfl] at this; exact hid this
              have HR2 : Hid (Rq w b2 (b2 + 1) (x : Int) ((H + 1 : Nat) : Int) ts os (.slice p N c) (.slice q N d) (wr.setCell ⟨b2 + 1, 1, none⟩ (.int .i64 ((H : Int) + 1)))) := by
                rw [show ((H + 1 : Nat) : Int) = (H : Int) + 1 by omega]
                exact hid (HRQ.out.side 1 (by omega) ((H : Int) + 1))
              clear HS2 HNO
              go_wp2
              go_roundw
              case rel => exact ⟨i + 1, x, H + 1, 0, N, ts, os, p, q, c, d, by omega, by simp, by simp, by omega, by omega, by omega, by omega, HN, HS3, HR2⟩
              case measure => simp [intOf]; omega
            · have hxW' : ((x : Int) != (W : Int)) = true := by simp; omega
              obtain ⟨rfl, rfl⟩ := HNO.out (by have := HS2.out; rwa [if_neg hxW] at this)
              clear HS2 HNO HBAD HOK
              go_wp2
              obtain ⟨z1, z2⟩ := HRQ.out.zero (I 0) (I 0) (.slice none 0 0) (.slice none 0 0)
              exact bodyPost_ret (results_cell_tmp Tryd.results11 rfl rfl z1 Tryd.underlying24 rfl size24) rfl ⟨_, rfl, zero_map _, z2⟩
        · have hb10 : ((b : Int) == 10) = false := by simp; omega
          rw [if_neg h10] at HS2
          by_cases h46 : b = 46
          · subst h46
            have HS3 : Hid (refAt k8 t8 o8 (s.data.toList.take (i + 1)) = some (W, H, x + 1, ts ++ [0], os ++ [0])) := HS2
            clear HS2 HNO
            have hO : OwnI (wr.alloc (.cells #[.int .i64 (0)] 3)) (b2 + 1 + 1) (.slice p N c) ts := HRQ.out.own1.below ((Below.refl _ _).alloc (Nat.le_refl _) _)
            have hB : IntsAt (wr.alloc (.cells #[.int .i64 (0)] 3)) (.slice (some ⟨wr.heap.size, 0, none⟩) 1 1) [(0)] := ints_one wr _ (0) rfl
            have hNN : N + 1 ≤ 1099511627776 := by omega
            have hbs : b2 + 1 + 1 ≤ (wr.alloc (.cells #[.int .i64 (0)] 3)).heap.size := by have := HRQ.out.mp.lt; simp; omega
            have HM1 : Hid (ts.length + [(0 : Int)].length = N + 1) := by rw [HN.out.1]; exact hid rfl
            have HM2 : Hid (os.length + [(0 : Int)].length = N + 1) := by rw [HN.out.2]; exact hid rfl
            have hG2 := HRQ.out.mp.frozen 2
            have HO := hid hO
            have HBI := hid hB
            have HBS := hid hbs
            clear hO hB hbs
            go_upto_region 26 with (first
              | ((with_reducible refine wpL_appendN (b2 + 1 + 1) (.slice p N c) (.slice (some ⟨wr.heap.size, 0, none⟩) 1 1) ts [(0)] (N + 1) (by simp) HM1.out ?_ ?_ HO.out HBI.out hNN HBS.out ?_); (rfl); (rfl); (intro p1 c1 w4 ho4 hg4); (have HR4 := hid (HRQ.out.tile (.cells #[.int .i64 (0)] 3) hg4 ho4)); (have hx4 := hg4.blk (HRQ.out.mp.alloc (.cells #[.int .i64 (0)] 3)) (fun e => by have := (HRQ.out.own1.block _ e).1; omega)); (have d4 := hx4.cell 2); (have f4 := hx4.frozen 2); (clear hx4 ho4 hg4 HO HBI HBS); (simp only [List.getElem?_cons_succ, List.getElem?_cons_zero] at d4); (simp only [Act.put, List.setIfInBounds_toArray, List.set_cons_zero, List.set_cons_succ])))
            clear hD0 hD1 hD2 hD3 hG0 hG1 hG2 hC0 hC1 hC2 hC3 hF0 hF1 hF2 hF3 d4 f4 HRQ
            generalize w4.setCell ⟨b2 + 1, 2, none⟩ (.slice p1 (N + 1) c1) = w5 at *
            have d2 : w5.cell? ⟨b2 + 1, 3, none⟩ = some (.slice q N d) := HR4.out.mp.cell 3
            have f2 := HR4.out.mp.frozen 3
            have hO : OwnI (w5.alloc (.cells #[.int .i64 (0)] 3)) (b2 + 1 + 1) (.slice q N d) os := HR4.out.own2.below ((Below.refl _ _).alloc (Nat.le_refl _) _)
            have hB : IntsAt (w5.alloc (.cells #[.int .i64 (0)] 3)) (.slice (some ⟨w5.heap.size, 0, none⟩) 1 1) [(0)] := ints_one w5 _ (0) rfl
            have hbs : b2 + 1 + 1 ≤ (w5.alloc (.cells #[.int .i64 (0)] 3)).heap.size := by have := HR4.out.mp.lt; simp; omega
            have HO := hid hO
            have HBI := hid hB
            have HBS := hid hbs
            clear hO hB hbs
            go_upto_region 27 with (first
              | ((with_reducible refine wpL_appendN (b2 + 1 + 1) (.slice q N d) (.slice (some ⟨w5.heap.size, 0, none⟩) 1 1) os [(0)] (N + 1) (by simp) HM2.out ?_ ?_ HO.out HBI.out hNN HBS.out ?_); (rfl); (rfl); (intro p2 c2 w6 ho6 hg6); (have HR6 := hid (HR4.out.ore (.cells #[.int .i64 (0)] 3) hg6 ho6)); (have hx6 := hg6.blk (HR4.out.mp.alloc (.cells #[.int .i64 (0)] 3)) (fun e => by have := (HR4.out.own2.block _ e).1; omega)); (have d6 := hx6.cell 3); (have f6 := hx6.frozen 3); (clear hx6 ho6 hg6 HO HBI HBS); (simp only [List.getElem?_cons_succ, List.getElem?_cons_zero] at d6); (simp only [Act.put, List.setIfInBounds_toArray, List.set_cons_zero, List.set_cons_succ])))
            have HNL : Hid ((ts ++ [(0 : Int)]).length = N + 1 ∧ (os ++ [(0 : Int)]).length = N + 1) := by rw [List.length_append, List.length_append]; exact hid ⟨HM1.out, HM2.out⟩
            clear d2 f2 d6 f6 HR4 HM1 HM2
            generalize w6.setCell ⟨b2 + 1, 3, none⟩ (.slice p2 (N + 1) c2) = w7 at *
            go_wp2
            go_roundw
            case rel => exact ⟨i + 1, W, H, x + 1, N + 1, _, _, _, _, _, _, by omega, by simp, by simp, by omega, by omega, by omega, by omega, HNL, HS3, HR6⟩
            case measure => simp [intOf]; omega
          · have hb46 : ((b : Int) == 46) = false := by simp; omega
            by_cases h35 : b = 35
            · subst h35
              have HS3 : Hid (refAt k8 t8 o8 (s.data.toList.take (i + 1)) = some (W, H, x + 1, ts ++ [1], os ++ [0])) := HS2
              clear HS2 HNO
              have hO : OwnI (wr.alloc (.cells #[.int .i64 (1)] 3)) (b2 + 1 + 1) (.slice p N c) ts := HRQ.out.own1.below ((Below.refl _ _).alloc (Nat.le_refl _) _)
              have hB : IntsAt (wr.alloc (.cells #[.int .i64 (1)] 3)) (.slice (some ⟨wr.heap.size, 0, none⟩) 1 1) [(1)] := ints_one wr _ (1) rfl
              have hNN : N + 1 ≤ 1099511627776 := by omega
              have hbs : b2 + 1 + 1 ≤ (wr.alloc (.cells #[.int .i64 (1)] 3)).heap.size := by have := HRQ.out.mp.lt; simp; omega
              have HM1 : Hid (ts.length + [(1 : Int)].length = N + 1) := by rw [HN.out.1]; exact hid rfl
              have HM2 : Hid (os.length + [(0 : Int)].length = N + 1) := by rw [HN.out.2]; exact hid rfl
              have hG2 := HRQ.out.mp.frozen 2
              have HO := hid hO
              have HBI := hid hB
              have HBS := hid hbs
              clear hO hB hbs
              go_upto_region 26 with (first
                | ((with_reducible refine wpL_appendN (b2 + 1 + 1) (.slice p N c) (.slice (some ⟨wr.heap.size, 0, none⟩) 1 1) ts [(1)] (N + 1) (by simp) HM1.out ?_ ?_ HO.out HBI.out hNN HBS.out ?_); (rfl); (rfl); (intro p1 c1 w4 ho4 hg4); (have HR4 := hid (HRQ.out.tile (.cells #[.int .i64 (1)] 3) hg4 ho4)); (have hx4 := hg4.blk (HRQ.out.mp.alloc (.cells #[.int .i64 (1)] 3)) (fun e => by have := (HRQ.out.own1.block _ e).1; omega)); (have d4 := hx4.cell 2); (have f4 := hx4.frozen 2); (clear hx4 ho4 hg4 HO HBI HBS); (simp only [List.getElem?_cons_succ, List.getElem?_cons_zero] at d4); (simp only [Act.put, List.setIfInBounds_toArray, List.set_cons_zero, List.set_cons_succ])))
              clear hD0 hD1 hD2 hD3 hG0 hG1 hG2 hC0 hC1 hC2 hC3 hF0 hF1 hF2 hF3 d4 f4 HRQ
              generalize w4.setCell ⟨b2 + 1, 2, none⟩ (.slice p1 (N + 1) c1) = w5 at *
              have d2 : w5.cell? ⟨b2 + 1, 3, none⟩ = some (.slice q N d) := HR4.out.mp.cell 3
              have f2 := HR4.out.mp.frozen 3
              have hO : OwnI (w5.alloc (.cells #[.int .i64 (0)] 3)) (b2 + 1 + 1) (.slice q N d) os := HR4.out.own2.below ((Below.refl _ _).alloc (Nat.le_refl _) _)
              have hB : IntsAt (w5.alloc (.cells #[.int .i64 (0)] 3)) (.slice (some ⟨w5.heap.size, 0, none⟩) 1 1) [(0)] := ints_one w5 _ (0) rfl
              have hbs : b2 + 1 + 1 ≤ (w5.alloc (.cells #[.int .i64 (0)] 3)).heap.size := by have := HR4.out.mp.lt; simp; omega
              have HO := hid hO
              have HBI := hid hB
              have HBS := hid hbs
              clear hO hB hbs
              go_upto_region 27 with (first
                | ((with_reducible refine wpL_appendN (b2 + 1 + 1) (.slice q N d) (.slice (some ⟨w5.heap.size, 0, none⟩) 1 1) os [(0)] (N + 1) (by simp) HM2.out ?_ ?_ HO.out HBI.out hNN HBS.out ?_); (rfl); (rfl); (intro p2 c2 w6 ho6 hg6); (have HR6 := hid (HR4.out.ore (.cells #[.int .i64 (0)] 3) hg6 ho6)); (have hx6 := hg6.blk (HR4.out.mp.alloc (.cells #[.int .i64 (0)] 3)) (fun e => by have := (HR4.out.own2.block _ e).1; omega)); (have d6 := hx6.cell 3); (have f6 := hx6.frozen 3); (clear hx6 ho6 hg6 HO HBI HBS); (simp only [List.getElem?_cons_succ, List.getElem?_cons_zero] at d6); (simp only [Act.put, List.setIfInBounds_toArray, List.set_cons_zero, List.set_cons_succ])))
              have HNL : Hid ((ts ++ [(1 : Int)]).length = N + 1 ∧ (os ++ [(0 : Int)]).length = N + 1) := by rw [List.length_append, List.length_append]; exact hid ⟨HM1.out, HM2.out⟩
              clear d2 f2 d6 f6 HR4 HM1 HM2
              generalize w6.setCell ⟨b2 + 1, 3, none⟩ (.slice p2 (N + 1) c2) = w7 at *
              go_wp2
              go_roundw
              case rel => exact ⟨i + 1, W, H, x + 1, N + 1, _, _, _, _, _, _, by omega, by simp, by simp, by omega, by omega, by omega, by omega, HNL, HS3, HR6⟩
              case measure => simp [intOf]; omega
            · have hb35 : ((b : Int) == 35) = false := by simp; omega
              by_cases h49 : 49 ≤ b ∧ b ≤ 57
              · have hb49 : (49 : Int) ≤ (b : Int) := by omega
                have hb57 : (b : Int) ≤ 57 := by omega
                have HS3 : Hid (refAt k8 t8 o8 (s.data.toList.take (i + 1)) = some (W, H, x + 1, ts ++ [2], os ++ [10 * ((b : Int) - 48)])) := by
                  have h1 := HS2.out
                  have e1 : sgnK b = true := by unfold sgnK; simp [h49.1, h49.2]
                  have e2 : sgnT b = 2 := by unfold sgnT; rw [if_neg h46, if_neg h35, if_pos h49]; split <;> rfl
                  have e3 : sgnO b = 10 * ((b : Int) - 48) := by unfold sgnO; rw [if_pos h49]; omega
                  rw [if_pos e1, e2, e3] at h1
                  exact hid h1
                clear HS2 HNO
                have hO : OwnI (wr.alloc (.cells #[.int .i64 (2)] 3)) (b2 + 1 + 1) (.slice p N c) ts := HRQ.out.own1.below ((Below.refl _ _).alloc (Nat.le_refl _) _)
                have hB : IntsAt (wr.alloc (.cells #[.int .i64 (2)] 3)) (.slice (some ⟨wr.heap.size, 0, none⟩) 1 1) [(2)] := ints_one wr _ (2) rfl
                have hNN : N + 1 ≤ 1099511627776 := by omega
                have hbs : b2 + 1 + 1 ≤ (wr.alloc (.cells #[.int .i64 (2)] 3)).heap.size := by have := HRQ.out.mp.lt; simp; omega
                have HM1 : Hid (ts.length + [(2 : Int)].length = N + 1) := by rw [HN.out.1]; exact hid rfl
                have HM2 : Hid (os.length + [(10 * ((b : Int) - 48) : Int)].length = N + 1) := by rw [HN.out.2]; exact hid rfl
                have hG2 := HRQ.out.mp.frozen 2
                have HO := hid hO
                have HBI := hid hB
                have HBS := hid hbs
                clear hO hB hbs
                go_upto_region 26 with (first
                  | ((with_reducible refine wpL_appendN (b2 + 1 + 1) (.slice p N c) (.slice (some ⟨wr.heap.size, 0, none⟩) 1 1) ts [(2)] (N + 1) (by simp) HM1.out ?_ ?_ HO.out HBI.out hNN HBS.out ?_); (rfl); (rfl); (intro p1 c1 w4 ho4 hg4); (have HR4 := hid (HRQ.out.tile (.cells #[.int .i64 (2)] 3) hg4 ho4)); (have hx4 := hg4.blk (HRQ.out.mp.alloc (.cells #[.int .i64 (2)] 3)) (fun e => by have := (HRQ.out.own1.block _ e).1; omega)); (have d4 := hx4.cell 2); (have f4 := hx4.frozen 2); (clear hx4 ho4 hg4 HO HBI HBS); (simp only [List.getElem?_cons_succ, List.getElem?_cons_zero] at d4); (simp only [Act.put, List.setIfInBounds_toArray, List.set_cons_zero, List.set_cons_succ])))
                clear hD0 hD1 hD2 hD3 hG0 hG1 hG2 hC0 hC1 hC2 hC3 hF0 hF1 hF2 hF3 d4 f4 HRQ
                generalize w4.setCell ⟨b2 + 1, 2, none⟩ (.slice p1 (N + 1) c1) = w5 at *
                have d2 : w5.cell? ⟨b2 + 1, 3, none⟩ = some (.slice q N d) := HR4.out.mp.cell 3
                have f2 := HR4.out.mp.frozen 3
                have hO : OwnI (w5.alloc (.cells #[.int .i64 (10 * ((b : Int) - 48))] 3)) (b2 + 1 + 1) (.slice q N d) os := HR4.out.own2.below ((Below.refl _ _).alloc (Nat.le_refl _) _)
                have hB : IntsAt (w5.alloc (.cells #[.int .i64 (10 * ((b : Int) - 48))] 3)) (.slice (some ⟨w5.heap.size, 0, none⟩) 1 1) [(10 * ((b : Int) - 48))] := ints_one w5 _ (10 * ((b : Int) - 48)) rfl
                have hbs : b2 + 1 + 1 ≤ (w5.alloc (.cells #[.int .i64 (10 * ((b : Int) - 48))] 3)).heap.size := by have := HR4.out.mp.lt; simp; omega
                have HO := hid hO
                have HBI := hid hB
                have HBS := hid hbs
                clear hO hB hbs
                go_upto_region 27 with (first
                  | ((with_reducible refine wpL_appendN (b2 + 1 + 1) (.slice q N d) (.slice (some ⟨w5.heap.size, 0, none⟩) 1 1) os [(10 * ((b : Int) - 48))] (N + 1) (by simp) HM2.out ?_ ?_ HO.out HBI.out hNN HBS.out ?_); (rfl); (rfl); (intro p2 c2 w6 ho6 hg6); (have HR6 := hid (HR4.out.ore (.cells #[.int .i64 (10 * ((b : Int) - 48))] 3) hg6 ho6)); (have hx6 := hg6.blk (HR4.out.mp.alloc (.cells #[.int .i64 (10 * ((b : Int) - 48))] 3)) (fun e => by have := (HR4.out.own2.block _ e).1; omega)); (have d6 := hx6.cell 3); (have f6 := hx6.frozen 3); (clear hx6 ho6 hg6 HO HBI HBS); (simp only [List.getElem?_cons_succ, List.getElem?_cons_zero] at d6); (simp only [Act.put, List.setIfInBounds_toArray, List.set_cons_zero, List.set_cons_succ])))
                have HNL : Hid ((ts ++ [(2 : Int)]).length = N + 1 ∧ (os ++ [(10 * ((b : Int) - 48) : Int)]).length = N + 1) := by rw [List.length_append, List.length_append]; exact hid ⟨HM1.out, HM2.out⟩
                clear d2 f2 d6 f6 HR4 HM1 HM2
                generalize w6.setCell ⟨b2 + 1, 3, none⟩ (.slice p2 (N + 1) c2) = w7 at *
                go_wp2
                go_roundw
                case rel => exact ⟨i + 1, W, H, x + 1, N + 1, _, _, _, _, _, _, by omega, by simp, by simp, by omega, by omega, by omega, by omega, HNL, HS3, HR6⟩
                case measure => simp [intOf]; omega
              · have hb49 : ((49 : Int) ≤ (b : Int)) = False ∨ (((49 : Int) ≤ (b : Int)) ∧ ((b : Int) ≤ 57) = False) := by
                  by_cases h1 : 49 ≤ b
                  · exact Or.inr ⟨by omega, by simp; omega⟩
                  · exact Or.inl (by simp; omega)
                by_cases h36 : b = 36
                · subst h36
                  have HS3 : Hid (refAt k8 t8 o8 (s.data.toList.take (i + 1)) = some (W, H, x + 1, ts ++ [2], os ++ [0])) := HS2
                  clear HS2 HNO hb49
                  have hO : OwnI (wr.alloc (.cells #[.int .i64 (2)] 3)) (b2 + 1 + 1) (.slice p N c) ts := HRQ.out.own1.below ((Below.refl _ _).alloc (Nat.le_refl _) _)
                  have hB : IntsAt (wr.alloc (.cells #[.int .i64 (2)] 3)) (.slice (some ⟨wr.heap.size, 0, none⟩) 1 1) [(2)] := ints_one wr _ (2) rfl
                  have hNN : N + 1 ≤ 1099511627776 := by omega
                  have hbs : b2 + 1 + 1 ≤ (wr.alloc (.cells #[.int .i64 (2)] 3)).heap.size := by have := HRQ.out.mp.lt; simp; omega
                  have HM1 : Hid (ts.length + [(2 : Int)].length = N + 1) := by rw [HN.out.1]; exact hid rfl
                  have HM2 : Hid (os.length + [(0 : Int)].length = N + 1) := by rw [HN.out.2]; exact hid rfl
                  have hG2 := HRQ.out.mp.frozen 2
                  have HO := hid hO
                  have HBI := hid hB
                  have HBS := hid hbs
                  clear hO hB hbs
                  go_upto_region 26 with (first
                    | ((with_reducible refine wpL_appendN (b2 + 1 + 1) (.slice p N c) (.slice (some ⟨wr.heap.size, 0, none⟩) 1 1) ts [(2)] (N + 1) (by simp) HM1.out ?_ ?_ HO.out HBI.out hNN HBS.out ?_); (rfl); (rfl); (intro p1 c1 w4 ho4 hg4); (have HR4 := hid (HRQ.out.tile (.cells #[.int .i64 (2)] 3) hg4 ho4)); (have hx4 := hg4.blk (HRQ.out.mp.alloc (.cells #[.int .i64 (2)] 3)) (fun e => by have := (HRQ.out.own1.block _ e).1; omega)); (have d4 := hx4.cell 2); (have f4 := hx4.frozen 2); (clear hx4 ho4 hg4 HO HBI HBS); (simp only [List.getElem?_cons_succ, List.getElem?_cons_zero] at d4); (simp only [Act.put, List.setIfInBounds_toArray, List.set_cons_zero, List.set_cons_succ])))
                  clear hD0 hD1 hD2 hD3 hG0 hG1 hG2 hC0 hC1 hC2 hC3 hF0 hF1 hF2 hF3 d4 f4 HRQ
                  generalize w4.setCell ⟨b2 + 1, 2, none⟩ (.slice p1 (N + 1) c1) = w5 at *
                  have d2 : w5.cell? ⟨b2 + 1, 3, none⟩ = some (.slice q N d) := HR4.out.mp.cell 3
                  have f2 := HR4.out.mp.frozen 3
                  have hO : OwnI (w5.alloc (.cells #[.int .i64 (0)] 3)) (b2 + 1 + 1) (.slice q N d) os := HR4.out.own2.below ((Below.refl _ _).alloc (Nat.le_refl _) _)
                  have hB : IntsAt (w5.alloc (.cells #[.int .i64 (0)] 3)) (.slice (some ⟨w5.heap.size, 0, none⟩) 1 1) [(0)] := ints_one w5 _ (0) rfl
                  have hbs : b2 + 1 + 1 ≤ (w5.alloc (.cells #[.int .i64 (0)] 3)).heap.size := by have := HR4.out.mp.lt; simp; omega
                  have HO := hid hO
                  have HBI := hid hB
                  have HBS := hid hbs
                  clear hO hB hbs
                  go_upto_region 27 with (first
                    | ((with_reducible refine wpL_appendN (b2 + 1 + 1) (.slice q N d) (.slice (some ⟨w5.heap.size, 0, none⟩) 1 1) os [(0)] (N + 1) (by simp) HM2.out ?_ ?_ HO.out HBI.out hNN HBS.out ?_); (rfl); (rfl); (intro p2 c2 w6 ho6 hg6); (have HR6 := hid (HR4.out.ore (.cells #[.int .i64 (0)] 3) hg6 ho6)); (have hx6 := hg6.blk (HR4.out.mp.alloc (.cells #[.int .i64 (0)] 3)) (fun e => by have := (HR4.out.own2.block _ e).1; omega)); (have d6 := hx6.cell 3); (have f6 := hx6.frozen 3); (clear hx6 ho6 hg6 HO HBI HBS); (simp only [List.getElem?_cons_succ, List.getElem?_cons_zero] at d6); (simp only [Act.put, List.setIfInBounds_toArray, List.set_cons_zero, List.set_cons_succ])))
                  have HNL : Hid ((ts ++ [(2 : Int)]).length = N + 1 ∧ (os ++ [(0 : Int)]).length = N + 1) := by rw [List.length_append, List.length_append]; exact hid ⟨HM1.out, HM2.out⟩
                  clear d2 f2 d6 f6 HR4 HM1 HM2
                  generalize w6.setCell ⟨b2 + 1, 3, none⟩ (.slice p2 (N + 1) c2) = w7 at *
                  go_wp2
                  go_roundw
                  case rel => exact ⟨i + 1, W, H, x + 1, N + 1, _, _, _, _, _, _, by omega, by simp, by simp, by omega, by omega, by omega, by omega, HNL, HS3, HR6⟩
                  case measure => simp [intOf]; omega
                · have hb36 : ((b : Int) != 36) = true := by simp; omega
                  obtain ⟨rfl, rfl⟩ := HNO.out (by
                    have h1 := HS2.out
                    have e1 : sgnK b = false := by
                      unfold sgnK
                      have a1 : (decide (49 ≤ b) && decide (b ≤ 57)) = false := by rw [← Bool.decide_and]; exact decide_eq_false h49
                      rw [a1]; simp [h46, h35, h36]
                    rwa [e1] at h1)
                  clear HS2 HNO HBAD HOK
                  rcases hb49 with hb49 | ⟨hb49, hb57⟩
                  all_goals
                    go_wp2
                    obtain ⟨z1, z2⟩ := HRQ.out.zero (I 0) (I 0) (.slice none 0 0) (.slice none 0 0)
                    exact bodyPost_ret (results_cell_tmp Tryd.results11 rfl rfl z1 Tryd.underlying24 rfl size24) rfl ⟨_, rfl, zero_map _, z2⟩
      · obtain rfl : i = s.size := by omega
        have hl' : ((s.size : Int) < (s.size : Int)) = False := by simp
        have hfull : s.data.toList.take s.size = s.data.toList := by rw [Lib.size_eq]; exact List.take_length
        rw [hfull] at HST
        obtain ⟨hE, hM⟩ := HOK.out _ _ _ _ _ HST.out
        have HMP : Hid (∀ w', Below wr.heap.size wr w' → MapAt w' (.agg #[.int .i64 (W : Int), .int .i64 (H : Int), .slice p N c, .slice q N d]) ⟨(W : Int), (H : Int), ts, os⟩) := hid (fun w' hb => ⟨p, c, q, d, by rw [HN.out.1, HN.out.2], by have := (HRQ.out.below hb).own1.ints; rw [← HN.out.1] at this; exact this, by have := (HRQ.out.below hb).own2.ints; rw [← HN.out.2] at this; exact this⟩)
        by_cases hx0 : x = 0
        · subst hx0
          have HF := hid (h16.out wr _ _ (HMP.out wr (Below.refl _ _)))
          unfold Out at HF
          simp only [true_and] at hE hM
          have HLG : Hid (formed ⟨(W : Int), (H : Int), ts, os⟩ = true → 16 ≤ ts.length ∧ 16 ≤ os.length) := fun h => formed_long h
          generalize formed ⟨(W : Int), (H : Int), ts, os⟩ = F at *
          have HE := hid hE
          have HMM := hid hM
          clear hE hM HBAD HOK
          go_wp2_with fail
          refine Calls.mono HF.out ?_
          rintro e w2 ⟨rfl, hb2⟩
          have HRQ2 := hid (HRQ.out.below hb2)
          have HMP2 := hid (HMP.out w2 hb2)
          clear hb2 HRQ HMP HF hD0 hD1 hD2 hD3 hG0 hG1 hC0 hC1 hC2 hC3 hF0 hF1 hF2 hF3
          have HRQ := HRQ2
          clear HRQ2
          have hC0 : w2.cell? ⟨b2, 0, none⟩ = some (.int .i64 0) := HRQ.out.res.cell 0
          have hC1 : w2.cell? ⟨b2, 1, none⟩ = some (.int .i64 0) := HRQ.out.res.cell 1
          have hC2 : w2.cell? ⟨b2, 2, none⟩ = some (.slice none 0 0) := HRQ.out.res.cell 2
          have hC3 : w2.cell? ⟨b2, 3, none⟩ = some (.slice none 0 0) := HRQ.out.res.cell 3
          have hF0 := HRQ.out.res.frozen 0
          have hF1 := HRQ.out.res.frozen 1
          have hF2 := HRQ.out.res.frozen 2
          have hF3 := HRQ.out.res.frozen 3
          have hD0 : w2.cell? ⟨b2 + 1, 0, none⟩ = some (.int .i64 (W : Int)) := HRQ.out.mp.cell 0
          have hD1 : w2.cell? ⟨b2 + 1, 1, none⟩ = some (.int .i64 (H : Int)) := HRQ.out.mp.cell 1
          have hD2 : w2.cell? ⟨b2 + 1, 2, none⟩ = some (.slice p N c) := HRQ.out.mp.cell 2
          have hD3 : w2.cell? ⟨b2 + 1, 3, none⟩ = some (.slice q N d) := HRQ.out.mp.cell 3
          cases F
          · obtain rfl : E = 4 := by have := HE.out; simpa using this
            obtain rfl : M = ⟨0, 0, [], []⟩ := by have := HMM.out; simpa using this
            go_wp2
            obtain ⟨z1, z2⟩ := HRQ.out.zero (I 0) (I 0) (.slice none 0 0) (.slice none 0 0)
            exact bodyPost_ret (results_cell_tmp Tryd.results11 rfl rfl z1 Tryd.underlying24 rfl size24) rfl ⟨_, rfl, zero_map _, z2⟩
          · obtain rfl : E = 0 := by have := HE.out; simpa using this
            obtain rfl : M = ⟨(W : Int), (H : Int), ts, os⟩ := by have := HMM.out; simpa using this
            go_wp2
            obtain ⟨z1, z2⟩ := HRQ.out.zero (I (W : Int)) (I (H : Int)) (.slice p N c) (.slice q N d)
            obtain ⟨g1, g2⟩ := HLG.out (by trivial)
            have hmm : MapAt ((((w2.setCell ⟨b2, 0, none⟩ (I (W : Int))).setCell ⟨b2, 1, none⟩ (I (H : Int))).setCell ⟨b2, 2, none⟩ (.slice p N c)).setCell ⟨b2, 3, none⟩ (.slice q N d)) (.agg #[.int .i64 (W : Int), .int .i64 (H : Int), .slice p N c, .slice q N d]) ⟨(W : Int), (H : Int), ts, os⟩ := by
              obtain ⟨p', c', q', d', he, h1, h2⟩ := HMP2.out
              simp at he
              obtain ⟨⟨rfl, h3, rfl⟩, rfl, h4, rfl⟩ := he
              have h5 := HN.out
              exact ⟨p, c, q, d, by simp; omega, h1.box4 HRQ.out.res (by simp; omega) _ _ _ _, h2.box4 HRQ.out.res (by simp; omega) _ _ _ _⟩
            exact bodyPost_ret (results_cell_tmp Tryd.results11 rfl rfl z1 Tryd.underlying24 rfl size24) rfl ⟨_, rfl, hmm, z2⟩
        · have hx' : ((x : Int) != 0) = true := by simp; omega
          have hno : ¬ (x = 0 ∧ formed ⟨(W : Int), (H : Int), ts, os⟩ = true) := fun h => hx0 h.1
          rw [if_neg hno] at hE hM
          subst hE hM
          clear HBAD HOK
          go_wp2
          obtain ⟨z1, z2⟩ := HRQ.out.zero (I 0) (I 0) (.slice none 0 0) (.slice none 0 0)
          exact bodyPost_ret (results_cell_tmp Tryd.results11 rfl rfl z1 Tryd.underlying24 rfl size24) rfl ⟨_, rfl, zero_map _, z2⟩
end Go.Proofs.YthinldcblbgdnaaDoor
