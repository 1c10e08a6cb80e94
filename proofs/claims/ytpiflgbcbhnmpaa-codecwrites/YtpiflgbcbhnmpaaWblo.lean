/- What Block answers. -/
import Derived.Test.YtpiflgbcbhnmpaaWblk
namespace Go.Proofs.Ytpiflgbcbhnmpaa
open Go.RowKit
theorem SdsLo.at {w : World} {base : Nat} {v : Value} {ds : List Sd} (h : SdsLo w base v ds) : SdsAt w v ds := by
  obtain ⟨p, cap, ess, rfl, h1, h2, h3⟩ := h
  refine ⟨p, cap, ess, rfl, h1, fun i d es hd he => ?_, fun hn => ?_⟩
  · obtain ⟨a1, q, c, a2, a3, _⟩ := h2 i d es hd he
    exact ⟨a1, _, a2, a3⟩
  · obtain ⟨b, o, e, _, hc⟩ := h3 hn
    exact ⟨b, o, e, hc⟩
theorem OwnC.lo {w : World} {base : Nat} {v : Value} {cs : List C6} (h : OwnC w base v cs) : ∃ q c, v = .slice q cs.length c ∧ ∀ a, q = some a → a.block < w.heap.size := by
  obtain ⟨_, ⟨rfl, hn⟩ | ⟨g, cap, cur, rfl, hg, hh, _⟩⟩ := h
  · exact ⟨none, 0, by rw [hn], fun a ha => by cases ha⟩
  · exact ⟨_, cap, rfl, fun a ha => by cases ha; exact (Array.getElem?_eq_some_iff.1 hh).1⟩
theorem OwnS.lo {w : World} {base : Nat} {v : Value} {ds : List Sd} (h : OwnS w base v ds) : SdsLo w w.heap.size v ds := by
  have hat := h.at
  obtain ⟨ess, h1, h2, h3⟩ := h
  have hl : ∀ es ∈ ess, es.length = 37 := fun es hes => by
    obtain ⟨i, hi⟩ := List.getElem?_of_mem hes
    have hlt : i < ds.length := by have := (List.getElem?_eq_some_iff.1 hi).1; omega
    exact (h3 i _ es (List.getElem?_eq_getElem hlt) hi).1
  have hm : ∀ (i : Nat) (d : Sd) (es : List Value), ds[i]? = some d → ess[i]? = some es → es.length = 37 ∧ ∃ (q : Option Addr) (c : Nat), es = d.cells (.slice q d.cs.length c) ∧ CmdsAt w (.slice q d.cs.length c) d.cs ∧ (0 < d.cs.length → ∀ a, q = some a → a.block < w.heap.size) := fun i d es hd he => by
    obtain ⟨a1, cv, a2, a3⟩ := h3 i d es hd he
    obtain ⟨q, c, rfl, hq⟩ := a3.lo
    exact ⟨a1, q, c, a2, a3.at, fun _ => hq⟩
  obtain ⟨_, ⟨rfl, hn⟩ | ⟨g, cap, cur, rfl, hg, hh, hc, hmx, hcs, ht⟩⟩ := h2
  · exact ⟨none, 0, ess, by rw [hn], h1, hm, fun hne => absurd (List.eq_nil_of_length_eq_zero hn) hne⟩
  · exact ⟨_, cap, ess, rfl, h1, hm, fun _ => ⟨g, 0, rfl, (Array.getElem?_eq_some_iff.1 hh).1, fun i es hi => row_range hh ht hl i es hi⟩⟩
def blkLst (d : Bk) : List Nat := if d.ok then d.bytes else []
def blkErr (d : Bk) : Int := if d.ok then 0 else 4
set_option maxRecDepth 100000 in
set_option maxHeartbeats 4000000 in
theorem block26 (d : Bk) (hf : BkFit d) (q : Option Addr) (N qc : Nat) (hN : N = d.ds.length) (hNb : N < 1000000000) (w : World) (hC : SdsLo w w.heap.size (.slice q N qc) d.ds) :
    Calls Try.prog 26 #[.agg (d.cells (.slice q N qc)).toArray] w fun e w' => OutE w w.heap.size (blkLst d) (blkErr d) e w' := by
  have hal : Below w.heap.size w (w.alloc (.cells (d.cells (.slice q N qc)).toArray 39)) := (Below.refl _ _).alloc (Nat.le_refl _) _
  have hbx := Blk.new w (d.cells (.slice q N qc)) 39
  have h51 := hid (blockFormed60 d hf q N qc (w.alloc (.cells (d.cells (.slice q N qc)).toArray 39)) hN (hC.below hal).at hNb)
  have h52 := hid (show d.ok = true → ∀ W, Below w.heap.size w W → Calls Try.prog 61 #[.slice none 0 0, .agg (d.cells (.slice q N qc)).toArray] W fun e w' => OutG W (.slice none 0 0) w.heap.size d.bytes e w' from fun hok W hW => by
    have h9 := appendBlock61 d (Bk.nn hok hf) q N qc hN [] w.heap.size none 0 0 W rfl (OwnB.nil _ _) hW.size (by omega) (hC.below hW)
    rw [List.nil_append] at h9
    exact h9)
  have HL := hid (show ∀ b, b = d.ok → blkLst d = (if b then d.bytes else []) ∧ blkErr d = (if b then 0 else 4) from fun b hb => by subst hb; exact ⟨rfl, rfl⟩)
  obtain ⟨E, hE⟩ : ∃ E, E = d.cells (.slice q N qc) := ⟨_, rfl⟩
  have hEl : E.length = 98 := by rw [hE]; exact bkL_length _ _ _ _ _ (by rw [List.length_map]; exact hf.p) (by rw [List.length_map]; exact hf.r) (by rw [List.length_map]; exact hf.s)
  have hi47 : (Try.prog.info? 39).map (·.size) = some E.length := by rw [hEl]; exact size39
  rw [← hE] at h51 h52 hbx hal ⊢
  obtain ⟨ok, hok⟩ : ∃ ok, ok = d.ok := ⟨_, rfl⟩
  rw [← hok] at h51 h52
  obtain ⟨l1, l2⟩ := HL.out ok hok
  rw [l1, l2]
  have HAL := hid hal
  have HBX := hid hbx
  have hr := hbx.range
  generalize d.bytes = BB at *
  clear hE hC hN hal hf hbx HL l1 l2 hok
  rcases ok with _ | _
  · go_enter Try.func26, Try.ntmps26
    go_wp2_with (first
      | ((with_reducible refine wpL_load 39 w.heap.size 0 E _ ?_ hr Try.underlying39 ?_ hi47 ?_); (rfl); (rfl); (simp only [Act.put, List.setIfInBounds_toArray, List.set_cons_zero, List.set_cons_succ]))
      | (go_at_call 60; refine Calls.mono h51.out ?_; rintro e w2 ⟨rfl, hb2⟩))
    go_ret2
    exact ⟨none, 0, 0, rfl, rfl, OwnB.nil _ _, HAL.out.trans (hb2.mono HAL.out.size)⟩
  · go_enter Try.func26, Try.ntmps26
    go_upto_region 1 with (fail)
    generalize w.alloc (.cells E.toArray 39) = W at *
    go_wp2_with (first
      | ((with_reducible refine wpL_load 39 w.heap.size 0 E _ ?_ hr Try.underlying39 ?_ hi47 ?_); (rfl); (rfl); (simp only [Act.put, List.setIfInBounds_toArray, List.set_cons_zero, List.set_cons_succ])))
    refine Calls.mono h51.out ?_
    rintro e w2 ⟨rfl, hb2⟩
    have hr2 := (HBX.out.below hb2 HBX.out.lt).range
    have hbe2 := HAL.out.trans (hb2.mono HAL.out.size)
    have h5 := hid (h52.out (by first | exact rfl | trivial) w2 hbe2)
    have HBE2 := hid hbe2
    clear hr h52 h51 hb2 hbe2
    go_wp2_with (first
      | ((with_reducible refine wpL_load 39 w.heap.size 0 E _ ?_ hr2 Try.underlying39 ?_ hi47 ?_); (rfl); (rfl); (simp only [Act.put, List.setIfInBounds_toArray, List.set_cons_zero, List.set_cons_succ])))
    refine Calls.mono h5.out ?_
    rintro e w3 ⟨p3, N3, c3, hN3, rfl, ho3, hg3⟩
    have HN3 := hid hN3
    have HB3 := hid (HBE2.out.trans (hg3.below (OwnB.nil w2 w.heap.size) HBE2.out.size))
    clear hN3 hg3
    go_wp2_with fail
    go_ret2
    exact ⟨p3, N3, c3, HN3.out, rfl, ho3, HB3.out⟩
end Go.Proofs.Ytpiflgbcbhnmpaa
