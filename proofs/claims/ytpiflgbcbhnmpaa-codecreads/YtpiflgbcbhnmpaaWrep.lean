/- What allFormed and appendList answer of blocks; what Replay answers. -/
import Derived.Test.YtpiflgbcbhnmpaaWres
namespace Go.Proofs.Ytpiflgbcbhnmpaa
open Go.RowKit
attribute [local go_sem ↓] zv39
/-- v is a slice of the blocks ks, all in memory below base. -/
def BksLo (w : World) (base : Nat) (v : Value) (ks : List Bk) : Prop :=
  ∃ (p : Option Addr) (cap : Nat) (ess : List (List Value)), v = .slice p ks.length cap ∧ ess.length = ks.length ∧ (∀ (i : Nat) (d : Bk) (es : List Value), ks[i]? = some d → ess[i]? = some es → es.length = 98 ∧ ∃ (q : Option Addr) (c : Nat), es = d.cells (.slice q d.ds.length c) ∧ SdsLo w base (.slice q d.ds.length c) d.ds) ∧ (ks ≠ [] → ∃ b o, p = some ⟨b, o, none⟩ ∧ b < base ∧ ∀ (i : Nat) (es : List Value), ess[i]? = some es → w.rangeAt b (o + i * 98) es)
theorem BksLo.below {w w' : World} {base : Nat} {v : Value} {ds : List Bk} (h : BksLo w base v ds) (hb : Below base w w') : BksLo w' base v ds := by
  obtain ⟨p, cap, ess, rfl, h1, h2, h3⟩ := h
  refine ⟨p, cap, ess, rfl, h1, fun i d es hd he => ?_, fun hn => ?_⟩
  · obtain ⟨a1, q, c, a2, a3⟩ := h2 i d es hd he
    exact ⟨a1, q, c, a2, a3.below hb⟩
  · obtain ⟨b, o, rfl, hlt, hc⟩ := h3 hn
    exact ⟨b, o, rfl, hlt, fun i es hi j u hu => by rw [hb.cell (p := ⟨b, o + i * 98 + j, none⟩) hlt]; exact hc i es hi j u hu⟩
def bksOk (ks : List Bk) : Bool := decide (ks.length ≤ 60) && ks.all Bk.ok
set_option maxRecDepth 100000 in
set_option maxHeartbeats 4000000 in
theorem allFormed100 (ds : List Bk) (hfit : ∀ k ∈ ds, BkFit k ∧ k.ds.length < 1000000000) (base : Nat) (p : Option Addr) (N cap : Nat) (w : World) (hN : N = ds.length) (h : BksLo w base (.slice p N cap) ds) (hbase : base ≤ w.heap.size) (hsz : N < 1000000000) :
    Calls Try.prog 100 #[.slice p N cap, .int .i64 60, .func (.func 60) #[] #[]] w fun e w' => e = .returned (.bool (bksOk ds)) ∧ Below w.heap.size w w' := by
  have hF : Hid (∀ (d : Bk) (q : Option Addr) (c : Nat) (W : World), BkFit d → d.ds.length < 1000000000 → SdsAt W (.slice q d.ds.length c) d.ds → Calls Try.prog 60 #[.agg (d.cells (.slice q d.ds.length c)).toArray] W fun e w' => e = .returned (.bool d.ok) ∧ Below W.heap.size W w') := fun d q c W h1 h2 h3 => blockFormed60 d h1 q _ c W rfl h3 h2
  obtain ⟨p', c', ess, he, hel, hmem, hrow⟩ := h
  simp at he
  obtain ⟨rfl, hNc, rfl⟩ := he
  clear hNc
  have HM := hid hmem
  have HR := hid hrow
  have HN := hid hN
  have HFT := hid hfit
  have HEL := hid hel
  by_cases h5 : ds.length ≤ 60
  · have hk : bksOk ds = ds.all Bk.ok := by unfold bksOk; rw [decide_eq_true h5, Bool.true_and]
    rw [hk]
    have e1 : ¬ (60 : Int) < (N : Int) := by omega
    clear hmem hrow hN h5 hk hfit hel
    go_enter Try.func100, Try.ntmps100
    go_wp2_with fail
    go_loopw [15] (fun iv wr => ∃ i : Nat, iv = .int .i64 (i : Nat) ∧ i ≤ N ∧ Hid (ds.all Bk.ok = (ds.drop i).all Bk.ok) ∧ Hid (Below w.heap.size w wr)) (fun iv _ => N - natOf iv)
    case atStart => exact ⟨0, rfl, by omega, rfl, Below.refl _ _⟩
    case round =>
      obtain ⟨i, rfl, hi, hA, hbe⟩ := hrel
      have w1' : IntKind.i64.wrap ((i : Int) + 1) = (i : Int) + 1 := by rw [IntKind.wrap_i64]; omega
      by_cases hlt : i < N
      · have hlb : i < ds.length := by have := HN.out; omega
        have hne : ds ≠ [] := by rintro rfl; simp at hlb
        obtain ⟨b, o, rfl, hblt, hc⟩ := HR.out hne
        obtain ⟨d, hdi⟩ : ∃ d, ds[i]? = some d := ⟨_, List.getElem?_eq_getElem hlb⟩
        obtain ⟨E, hEi⟩ : ∃ E, ess[i]? = some E := ⟨_, List.getElem?_eq_getElem (by have := HEL.out; omega)⟩
        obtain ⟨hEl, q, c, hEd, hCm⟩ := HM.out i d E hdi hEi
        have hr : wr.rangeAt b (o + i * 98) E := fun j u hu => by
          have h9 := hc i E hEi j u hu
          rw [hbe.out.cell (p := ⟨b, o + i * 98 + j, none⟩) (lt_of_cell h9)]; exact h9
        obtain ⟨hd1, hd3⟩ := HFT.out d (List.mem_of_getElem? hdi)
        have hcall := hid (show ∀ W, Below w.heap.size w W → Calls Try.prog 60 #[.agg E.toArray] W fun e w' => e = .returned (.bool d.ok) ∧ Below W.heap.size W w' from fun W hW => by rw [hEd]; exact hF.out d q c W hd1 hd3 (hCm.below (hW.mono hbase)).at)
        have HA2 : Hid (ds.all Bk.ok = (d.ok && (ds.drop (i + 1)).all Bk.ok)) := by
          show _ = _
          rw [hA.out, List.drop_eq_getElem_cons hlb, List.all_cons, (List.getElem?_eq_some_iff.1 hdi).2]
        have e2 : (i : Int) < (N : Int) := by omega
        have e3 : (0 : Int) ≤ (i : Int) := by omega
        have hi47 : (Try.prog.info? 39).map (·.size) = some E.length := by rw [hEl]; exact size39
        have hzl : z39.length = E.length := by rw [hEl]; exact bkL_length _ _ _ _ _ (zB_length 32) (zB_length 32) (zB_length 32)
        have honeE : Hid (∀ v ∈ E, v.oneCell' = true) := by
          rw [hEd]; intro v hv
          simp only [Bk.cells, bkL, List.mem_cons, List.mem_append, List.not_mem_nil, or_false] at hv
          rcases hv with rfl | hv | hv | hv | rfl
          · rfl
          · exact mapBy_one _ v hv
          · exact mapBy_one _ v hv
          · exact mapBy_one _ v hv
          · rfl
        have HAL := hid (hbe.out.alloc hbe.out.size (.cells E.toArray 39))
        have hrn := (Blk.new wr E 39).range
        generalize d.ok = q at *
        clear hc hdi hEi hA hne hEd hCm hbe hd1 hd3 hblt
        rcases q with _ | _
        · go_wp2_with (first
            | ((with_reducible refine wpL_load 39 b (o + i * 98) E _ ?_ hr Try.underlying39 ?_ hi47 ?_); (rfl); (rfl); (simp only [Act.put, List.setIfInBounds_toArray, List.set_cons_zero, List.set_cons_succ]))
            | ((with_reducible refine wpL_new 39 z39 E zv39 hzl ?_ ?_ hi47 honeE.out ?_); (rfl); (rfl); (simp only [Act.put, List.setIfInBounds_toArray, List.set_cons_zero, List.set_cons_succ]))
            | ((with_reducible refine wpL_load 39 wr.heap.size 0 E _ ?_ hrn Try.underlying39 ?_ hi47 ?_); (rfl); (rfl); (simp only [Act.put, List.setIfInBounds_toArray, List.set_cons_zero, List.set_cons_succ]))
            | (go_at_call 60; refine Calls.mono (hcall.out _ HAL.out) ?_; rintro e w2 ⟨rfl, hb2⟩))
          go_ret
          exact ⟨by rw [HA2.out]; rfl, HAL.out.trans (hb2.mono HAL.out.size)⟩
        · rw [Bool.true_and] at HA2
          go_wp2_with (first
            | ((with_reducible refine wpL_load 39 b (o + i * 98) E _ ?_ hr Try.underlying39 ?_ hi47 ?_); (rfl); (rfl); (simp only [Act.put, List.setIfInBounds_toArray, List.set_cons_zero, List.set_cons_succ]))
            | ((with_reducible refine wpL_new 39 z39 E zv39 hzl ?_ ?_ hi47 honeE.out ?_); (rfl); (rfl); (simp only [Act.put, List.setIfInBounds_toArray, List.set_cons_zero, List.set_cons_succ]))
            | ((with_reducible refine wpL_load 39 wr.heap.size 0 E _ ?_ hrn Try.underlying39 ?_ hi47 ?_); (rfl); (rfl); (simp only [Act.put, List.setIfInBounds_toArray, List.set_cons_zero, List.set_cons_succ]))
            | (go_at_call 60; refine Calls.mono (hcall.out _ HAL.out) ?_; rintro e w2 ⟨rfl, hb2⟩))
          go_roundw
          case rel => exact ⟨i + 1, by go_num, by omega, HA2, HAL.out.trans (hb2.mono HAL.out.size)⟩
          case measure => simp [natOf]; omega
      · have e2 : ¬ (i : Int) < (N : Int) := by omega
        have HA2 : Hid (ds.all Bk.ok = true) := by
          show _ = _
          rw [hA.out, List.drop_eq_nil_of_le (by have := HN.out; omega)]; rfl
        clear hA
        go_wp2_with fail
        go_ret
        exact ⟨by rw [HA2.out]; rfl, hbe.out⟩
  · have hk : bksOk ds = false := by unfold bksOk; rw [decide_eq_false h5, Bool.false_and]
    rw [hk]
    have e1 : (60 : Int) < (N : Int) := by omega
    clear hmem hrow hN h5 hk hfit hel
    go_enter Try.func100, Try.ntmps100
    go_wp2_with fail
    go_ret
    exact ⟨rfl, Below.refl _ _⟩
end Go.Proofs.Ytpiflgbcbhnmpaa
