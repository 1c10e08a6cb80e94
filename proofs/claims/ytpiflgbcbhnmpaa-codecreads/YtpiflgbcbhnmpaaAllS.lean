/- What allFormed answers of sealed commands, and blockFormed. -/
import Derived.Test.YtpiflgbcbhnmpaaLsd
namespace Go.Proofs.Ytpiflgbcbhnmpaa
open Go.RowKit
attribute [local go_sem ↓] zv47
/-- v is a slice of the sealed commands ds. -/
def SdsAt (w : World) (v : Value) (ds : List Sd) : Prop :=
  ∃ (p : Option Addr) (cap : Nat) (ess : List (List Value)), v = .slice p ds.length cap ∧ ess.length = ds.length ∧ (∀ (i : Nat) (d : Sd) (es : List Value), ds[i]? = some d → ess[i]? = some es → es.length = 37 ∧ ∃ cv, es = d.cells cv ∧ CmdsAt w cv d.cs) ∧ (ds ≠ [] → ∃ b o, p = some ⟨b, o, none⟩ ∧ ∀ (i : Nat) (es : List Value), ess[i]? = some es → w.rangeAt b (o + i * 37) es)
theorem flatten_get (k : Nat) : ∀ (ess : List (List Value)), (∀ es ∈ ess, es.length = k) → ∀ (i : Nat) (es : List Value) (j : Nat) (u : Value), ess[i]? = some es → es[j]? = some u → ess.flatten[i * k + j]? = some u
  | [], _, i, es, j, u, h, _ => by simp at h
  | x :: r, hl, i, es, j, u, h, hu => by
    have hx : x.length = k := hl x (by simp)
    rw [List.flatten_cons]
    rcases i with _ | i
    · simp at h; subst h
      have hj : j < x.length := (List.getElem?_eq_some_iff.1 hu).1
      rw [Nat.zero_mul, Nat.zero_add, List.getElem?_append_left hj]
      exact hu
    · have e : (i + 1) * k + j - x.length = i * k + j := by rw [hx, Nat.add_mul, Nat.one_mul]; omega
      rw [List.getElem?_append_right (by rw [hx, Nat.add_mul, Nat.one_mul]; omega), e]
      exact flatten_get k r (fun es hes => hl es (by simp [hes])) i es j u (by simpa using h) hu
theorem row_range {w : World} {g : Nat} {ty : TypeId} {k n : Nat} {cur : Array Value} {ess : List (List Value)} (hh : w.heap[g]? = some (.cells cur ty (0, 0))) (ht : cur.toList.take (n * k) = ess.flatten) (hl : ∀ es ∈ ess, es.length = k) (i : Nat) (es : List Value) (hi : ess[i]? = some es) : w.rangeAt g (0 + i * k) es := by
  intro j u hu
  have h1 := flatten_get k ess hl i es j u hi hu
  rw [← ht, List.getElem?_take] at h1
  split at h1
  · rw [Nat.zero_add, cell_of_row _ _ _ _ _ _ hh, ← Array.getElem?_toList]; exact h1
  · cases h1
theorem OwnS.at {w : World} {base : Nat} {v : Value} {ds : List Sd} (h : OwnS w base v ds) : SdsAt w v ds := by
  obtain ⟨ess, h1, h2, h3⟩ := h
  have hm : ∀ (i : Nat) (d : Sd) (es : List Value), ds[i]? = some d → ess[i]? = some es → es.length = 37 ∧ ∃ cv, es = d.cells cv ∧ CmdsAt w cv d.cs := fun i d es hd he => by
    obtain ⟨a1, cv, a2, a3⟩ := h3 i d es hd he
    exact ⟨a1, cv, a2, a3.at⟩
  have hl : ∀ es ∈ ess, es.length = 37 := fun es hes => by
    obtain ⟨i, hi⟩ := List.getElem?_of_mem hes
    have hlt : i < ds.length := by have := (List.getElem?_eq_some_iff.1 hi).1; omega
    exact (hm i _ es (List.getElem?_eq_getElem hlt) hi).1
  obtain ⟨_, ⟨rfl, hn⟩ | ⟨g, cap, cur, rfl, hg, hh, hc, hmx, hcs, ht⟩⟩ := h2
  · exact ⟨none, 0, ess, by rw [hn], h1, hm, fun hne => absurd (List.eq_nil_of_length_eq_zero hn) hne⟩
  · exact ⟨_, cap, ess, rfl, h1, hm, fun _ => ⟨g, 0, rfl, fun i es hi => row_range hh ht hl i es hi⟩⟩
theorem SdsAt.below {w w' : World} {v : Value} {ds : List Sd} (h : SdsAt w v ds) (hb : Below w.heap.size w w') : SdsAt w' v ds := by
  obtain ⟨p, cap, ess, rfl, h1, h2, h3⟩ := h
  refine ⟨p, cap, ess, rfl, h1, fun i d es hd he => ?_, fun hn => ?_⟩
  · obtain ⟨a1, cv, a2, a3⟩ := h2 i d es hd he
    exact ⟨a1, cv, a2, a3.below hb⟩
  · obtain ⟨b, o, rfl, hc⟩ := h3 hn
    exact ⟨b, o, rfl, fun i es hi j u hu => by have h9 := hc i es hi j u hu; rw [hb.cell (p := ⟨b, o + i * 37 + j, none⟩) (lt_of_cell h9)]; exact h9⟩
def sdsOk (ds : List Sd) : Bool := decide (ds.length ≤ 4) && ds.all Sd.ok
def SdsFit (ds : List Sd) : Prop := ∀ d ∈ ds, d.m < 18446744073709551616 ∧ d.tag.length = 32 ∧ d.cs.length < 1000000000
set_option maxRecDepth 100000 in
set_option maxHeartbeats 4000000 in
theorem allFormed89 (ds : List Sd) (hfit : SdsFit ds) (p : Option Addr) (N cap : Nat) (w : World) (hN : N = ds.length) (h : SdsAt w (.slice p N cap) ds) (hsz : N < 1000000000) :
    Calls Try.prog 89 #[.slice p N cap, .int .i64 4, .func (.func 51) #[] #[]] w fun e w' => e = .returned (.bool (sdsOk ds)) ∧ Below w.heap.size w w' := by
  have hF : Hid (∀ (d : Sd) (cv : Value) (W : World), d.m < 18446744073709551616 → d.cs.length < 1000000000 → CmdsAt W cv d.cs → Calls Try.prog 51 #[.agg (d.cells cv).toArray] W fun e w' => e = .returned (.bool d.ok) ∧ Below W.heap.size W w') := fun d cv W h1 h2 h3 => by
    obtain ⟨p', c', rfl, h4⟩ := h3
    exact sealedFormed51 d h1 p' _ c' W rfl ⟨p', c', rfl, h4⟩ h2
  obtain ⟨p', c', ess, he, hel, hmem, hrow⟩ := h
  simp at he
  obtain ⟨rfl, _, rfl⟩ := he
  have HM := hid hmem
  have HR := hid hrow
  have HN := hid hN
  have HFT := hid hfit
  have HEL := hid hel
  by_cases h5 : ds.length ≤ 4
  · have hk : sdsOk ds = ds.all Sd.ok := by unfold sdsOk; rw [decide_eq_true h5, Bool.true_and]
    rw [hk]
    have e1 : ¬ (4 : Int) < (N : Int) := by omega
    clear hmem hrow hN h5 hk hfit hel
    go_enter Try.func89, Try.ntmps89
    go_wp2_with fail
    go_loopw [15] (fun iv wr => ∃ i : Nat, iv = .int .i64 (i : Nat) ∧ i ≤ N ∧ Hid (ds.all Sd.ok = (ds.drop i).all Sd.ok) ∧ Hid (Below w.heap.size w wr)) (fun iv _ => N - natOf iv)
    case atStart => exact ⟨0, rfl, by omega, rfl, Below.refl _ _⟩
    case round =>
      obtain ⟨i, rfl, hi, hA, hbe⟩ := hrel
      have w1' : IntKind.i64.wrap ((i : Int) + 1) = (i : Int) + 1 := by rw [IntKind.wrap_i64]; omega
      by_cases hlt : i < N
      · have hlb : i < ds.length := by have := HN.out; omega
        have hne : ds ≠ [] := by rintro rfl; simp at hlb
        obtain ⟨b, o, rfl, hc⟩ := HR.out hne
        obtain ⟨d, hdi⟩ : ∃ d, ds[i]? = some d := ⟨_, List.getElem?_eq_getElem hlb⟩
        obtain ⟨E, hEi⟩ : ∃ E, ess[i]? = some E := ⟨_, List.getElem?_eq_getElem (by have := HEL.out; omega)⟩
        obtain ⟨hEl, cv, hEd, hCm⟩ := HM.out i d E hdi hEi
        have hr : wr.rangeAt b (o + i * 37) E := fun j u hu => by
          have h9 := hc i E hEi j u hu
          rw [hbe.out.cell (p := ⟨b, o + i * 37 + j, none⟩) (lt_of_cell h9)]; exact h9
        obtain ⟨hd1, hd2, hd3⟩ := HFT.out d (List.mem_of_getElem? hdi)
        have hcall := hid (show ∀ W, Below w.heap.size w W → Calls Try.prog 51 #[.agg E.toArray] W fun e w' => e = .returned (.bool d.ok) ∧ Below W.heap.size W w' from fun W hW => by rw [hEd]; exact hF.out d cv W hd1 hd3 (hCm.below hW))
        have HA2 : Hid (ds.all Sd.ok = (d.ok && (ds.drop (i + 1)).all Sd.ok)) := by
          show _ = _
          rw [hA.out, List.drop_eq_getElem_cons hlb, List.all_cons, (List.getElem?_eq_some_iff.1 hdi).2]
        have e2 : (i : Int) < (N : Int) := by omega
        have e3 : (0 : Int) ≤ (i : Int) := by omega
        have hi47 : (Try.prog.info? 47).map (·.size) = some E.length := by rw [hEl]; exact size47
        have hzl : z47.length = E.length := by rw [hEl]; simp [z47, zB_length]
        have honeE : Hid (∀ v ∈ E, v.oneCell' = true) := by
          rw [hEd]; intro v hv
          have hcv : cv.oneCell' = true := by obtain ⟨p', c', rfl, _⟩ := hCm; rfl
          simp only [Sd.cells, List.mem_cons] at hv
          rcases hv with rfl | rfl | rfl | rfl | rfl | hv
          · rfl
          · rfl
          · rfl
          · rfl
          · exact hcv
          · exact mapBy_one _ v hv
        have HAL := hid (hbe.out.alloc hbe.out.size (.cells E.toArray 47))
        have hrn := (Blk.new wr E 47).range
        generalize d.ok = q at *
        clear hc hdi hEi hA hne hEd hCm hbe hd1 hd2 hd3
        rcases q with _ | _
        · go_wp2_with (first
            | ((with_reducible refine wpL_load 47 b (o + i * 37) E _ ?_ hr Try.underlying47 ?_ hi47 ?_); (rfl); (rfl); (simp only [Act.put, List.setIfInBounds_toArray, List.set_cons_zero, List.set_cons_succ]))
            | ((with_reducible refine wpL_new 47 z47 E zv47 hzl ?_ ?_ hi47 honeE.out ?_); (rfl); (rfl); (simp only [Act.put, List.setIfInBounds_toArray, List.set_cons_zero, List.set_cons_succ]))
            | ((with_reducible refine wpL_load 47 wr.heap.size 0 E _ ?_ hrn Try.underlying47 ?_ hi47 ?_); (rfl); (rfl); (simp only [Act.put, List.setIfInBounds_toArray, List.set_cons_zero, List.set_cons_succ]))
            | (go_at_call 51; refine Calls.mono (hcall.out _ HAL.out) ?_; rintro e w2 ⟨rfl, hb2⟩))
          go_ret
          exact ⟨by rw [HA2.out]; rfl, HAL.out.trans (hb2.mono HAL.out.size)⟩
        · rw [Bool.true_and] at HA2
          go_wp2_with (first
            | ((with_reducible refine wpL_load 47 b (o + i * 37) E _ ?_ hr Try.underlying47 ?_ hi47 ?_); (rfl); (rfl); (simp only [Act.put, List.setIfInBounds_toArray, List.set_cons_zero, List.set_cons_succ]))
            | ((with_reducible refine wpL_new 47 z47 E zv47 hzl ?_ ?_ hi47 honeE.out ?_); (rfl); (rfl); (simp only [Act.put, List.setIfInBounds_toArray, List.set_cons_zero, List.set_cons_succ]))
            | ((with_reducible refine wpL_load 47 wr.heap.size 0 E _ ?_ hrn Try.underlying47 ?_ hi47 ?_); (rfl); (rfl); (simp only [Act.put, List.setIfInBounds_toArray, List.set_cons_zero, List.set_cons_succ]))
            | (go_at_call 51; refine Calls.mono (hcall.out _ HAL.out) ?_; rintro e w2 ⟨rfl, hb2⟩))
          go_roundw
          case rel => exact ⟨i + 1, by go_num, by omega, HA2, HAL.out.trans (hb2.mono HAL.out.size)⟩
          case measure => simp [natOf]; omega
      · have e2 : ¬ (i : Int) < (N : Int) := by omega
        have HA2 : Hid (ds.all Sd.ok = true) := by
          show _ = _
          rw [hA.out, List.drop_eq_nil_of_le (by have := HN.out; omega)]; rfl
        clear hA
        go_wp2_with fail
        go_ret
        exact ⟨by rw [HA2.out]; rfl, hbe.out⟩
  · have hk : sdsOk ds = false := by unfold sdsOk; rw [decide_eq_false h5, Bool.false_and]
    rw [hk]
    have e1 : (4 : Int) < (N : Int) := by omega
    clear hmem hrow hN h5 hk hfit hel
    go_enter Try.func89, Try.ntmps89
    go_wp2_with fail
    go_ret
    exact ⟨rfl, Below.refl _ _⟩
end Go.Proofs.Ytpiflgbcbhnmpaa
