/- Numbers made better until none is: what they are then. -/
import Derived.Test.YtemcbonmlmobkaaFollow
namespace Go.Proofs.Ytemcbonmlmobkaa
open Go.RowKit
def cellOf (m : Mp) (i : Nat) : Cl := ((i : Int) % m.W, (i : Int) / m.W)
def idx (m : Mp) (c : Cl) : Nat := (c.2 * m.W + c.1).toNat
theorem idx_lt {m : Mp} (hf : formed m = true) {T : Nat} (hT : m.W * m.H = (T : Int)) {c : Cl} (hc : inn m c = true) : idx m c < T ∧ c.2 * m.W + c.1 = (idx m c : Int) := by
  obtain ⟨f1, f2, -⟩ := formed_of hf
  have hq := place_lt f1 f2 (holds_of hc)
  have hp := holds_of hc
  unfold idx
  omega
theorem cell_idx {m : Mp} (hf : formed m = true) {c : Cl} (hc : inn m c = true) : cellOf m (idx m c) = c := by
  obtain ⟨f1, f2, -⟩ := formed_of hf
  have hq := place_lt f1 f2 (holds_of hc)
  have hp := holds_of hc
  unfold cellOf idx
  have e : ((c.2 * m.W + c.1).toNat : Int) = c.2 * m.W + c.1 := by omega
  rw [e]
  refine Prod.ext ?_ ?_
  · show (c.2 * m.W + c.1) % m.W = c.1
    rw [Int.mul_add_emod_self_right, Int.emod_eq_of_lt hp.1 hp.2.1]
  · show (c.2 * m.W + c.1) / m.W = c.2
    rw [Int.add_comm, Int.add_mul_ediv_right _ _ (by omega), Int.ediv_eq_zero_of_lt hp.1 hp.2.1, Int.zero_add]
theorem idx_cell {m : Mp} (hf : formed m = true) (i : Nat) : idx m (cellOf m i) = i := by
  obtain ⟨f1, f2, -⟩ := formed_of hf
  have h := Int.mul_ediv_add_emod (i : Int) m.W
  rw [Int.mul_comm] at h
  show ((i : Int) / m.W * m.W + (i : Int) % m.W).toNat = i
  rw [h, Int.toNat_natCast]
theorem cell_in {m : Mp} (hf : formed m = true) {T i : Nat} (hT : m.W * m.H = (T : Int)) (hi : i < T) : inn m (cellOf m i) = true := by
  obtain ⟨f1, f2, -⟩ := formed_of hf
  have h0 : 0 ≤ (i : Int) := by omega
  have h1 := Int.emod_nonneg (i : Int) (show m.W ≠ 0 by omega)
  have h2 := Int.emod_lt_of_pos (i : Int) (show 0 < m.W by omega)
  have h3 : 0 ≤ (i : Int) / m.W := Int.ediv_nonneg h0 (by omega)
  have h4 : (i : Int) / m.W < m.H := Int.ediv_lt_of_lt_mul (by omega) (by rw [Int.mul_comm, hT]; omega)
  unfold inn holds cellOf
  simp only [Bool.and_eq_true, decide_eq_true_eq]
  omega
/-- How many steps it is from c, if there is a way. -/
def fV (m : Mp) (bl : List Cl) (b c : Cl) : Option Nat := (List.range 1001).find? (fun n => wy m bl b n c)
structure Field (m : Mp) (bl : List Cl) (b : Cl) (f : Cl → Option Nat) : Prop where
  ways : ∀ c n, f c = some n → wy m bl b n c = true
  least : ∀ c n, inn m c = true → wy m bl b n c = true → ∃ k, k ≤ n ∧ f c = some k
  few : ∀ c n, f c = some n → n ≤ 1000
theorem meas_ex {m : Mp} {bl : List Cl} {a b : Cl} (hf : formed m = true) (ha : inn m a = true) (hb : inn m b = true) : ∃ f, Meas m bl a b f := by
  have key : ∀ (g i : Nat) (s : St), 401 - i ≤ g → Inv m bl a b i s → ∃ f, Meas m bl a b f := by
    intro g
    induction g with
    | zero =>
      intro i s hg h
      refine ⟨_, h.done hf ha hb fun x hx => ?_⟩
      have h1 := h.few hf
      rw [List.getElem?_eq_none (by omega)] at hx
      cases hx
    | succ g ih =>
      intro i s hg h
      by_cases he : ∀ x, s.1[i]? = some x → x = a
      · exact ⟨_, h.done hf ha hb he⟩
      · simp only [Classical.not_forall] at he
        obtain ⟨x, hx, hxa⟩ := he
        have h1 := h.few hf
        have h2 : i < s.1.length := by
          rcases Nat.lt_or_ge i s.1.length with hl | hl
          · exact hl
          · rw [List.getElem?_eq_none hl] at hx; cases hx
        exact ih (i + 1) _ (by omega) (h.next hf hx hxa).1
  exact key 401 0 _ (by omega) (Inv.begin hb)
theorem fV_some {m : Mp} {bl : List Cl} {b c : Cl} {n : Nat} (h : fV m bl b c = some n) : wy m bl b n c = true ∧ n ≤ 1000 := by
  unfold fV at h
  have h1 := List.find?_some h
  have h2 := List.mem_of_find?_eq_some h
  rw [List.mem_range] at h2
  exact ⟨h1, by omega⟩
theorem fV_field {m : Mp} {bl : List Cl} {b : Cl} (hf : formed m = true) (hb : inn m b = true) : Field m bl b (fV m bl b) := by
  refine ⟨fun c n h => (fV_some h).1, fun c n hc hw => ?_, fun c n h => (fV_some h).2⟩
  obtain ⟨f, hM⟩ := meas_ex (bl := bl) hf hc hb
  obtain ⟨k, hk, hd⟩ := ds_of_wy hw
  have hk4 : k ≤ 400 := by
    cases hn : f c with
    | none => have := hM.none hn n; rw [hw] at this; cases this
    | some L =>
      obtain ⟨h1, h2, -⟩ := hM.some L hn
      have := ds_unique h1 hd
      omega
  cases hn : fV m bl b c with
  | none =>
    unfold fV at hn
    rw [List.find?_eq_none] at hn
    exact absurd (ds_iff.1 hd).1 (hn k (List.mem_range.2 (by omega)))
  | some j =>
    refine ⟨j, ?_, rfl⟩
    rcases Nat.lt_or_ge k j with hl | hl
    · unfold fV at hn
      rw [List.find?_range_eq_some] at hn
      have := hn.2.2 k hl
      rw [(ds_iff.1 hd).1] at this
      cases this
    · omega
/-- The numbers are those of ways, or 1000000. -/
structure Good (m : Mp) (bl : List Cl) (b : Cl) (T : Nat) (d : List Int) : Prop where
  len : d.length = T
  lo : ∀ i, i < T → 0 ≤ d.getD i 0 ∧ d.getD i 0 ≤ 1000000
  ways : ∀ i, i < T → d.getD i 0 < 1000000 → wy m bl b (d.getD i 0).toNat (cellOf m i) = true
def Zero (m : Mp) (b : Cl) (d : List Int) : Prop := ∀ c, c = b → d.getD (idx m c) 0 = 0
theorem getD_set (d : List Int) (i j : Nat) (v : Int) (hi : i < d.length) : (d.set i v).getD j 0 = if i = j then v else d.getD j 0 := by
  rw [List.getD_eq_getElem?_getD, List.getElem?_set, List.getD_eq_getElem?_getD]
  by_cases h : i = j
  · rw [if_pos h, if_pos h, if_pos hi]; rfl
  · rw [if_neg h, if_neg h]
theorem good_begin (m : Mp) (bl : List Cl) (b : Cl) (T : Nat) : Good m bl b T (List.replicate T 1000000) := by
  have e : ∀ i, i < T → (List.replicate T (1000000 : Int)).getD i 0 = 1000000 := fun i hi => by
    rw [List.getD_eq_getElem?_getD, List.getElem?_replicate, if_pos hi]; rfl
  exact ⟨List.length_replicate, fun i hi => by rw [e i hi]; omega, fun i hi h => by rw [e i hi] at h; omega⟩
theorem good_goal {m : Mp} {bl : List Cl} {b : Cl} {T : Nat} {d : List Int} (hf : formed m = true) (hT : m.W * m.H = (T : Int)) (h : Good m bl b T d) {c : Cl} (hc : c = b) (hi : inn m c = true) : Good m bl b T (d.set (idx m c) 0) := by
  have hl := (idx_lt hf hT hi).1
  have hg := fun j => getD_set d (idx m c) j 0 (by rw [h.len]; exact hl)
  refine ⟨by rw [List.length_set]; exact h.len, fun i hi' => ?_, fun i hi' hlt => ?_⟩
  · rw [hg i]
    split
    · omega
    · exact h.lo i hi'
  · rw [hg i] at hlt ⊢
    by_cases he : idx m c = i
    · rw [if_pos he, ← he, cell_idx hf hi]
      exact wy_zero.2 hc
    · rw [if_neg he] at hlt ⊢
      exact h.ways i hi' hlt
def sumN : List Int → Nat
  | [] => 0
  | x :: r => x.toNat + sumN r
theorem sumN_set : ∀ (d : List Int) (i : Nat) (v : Int), i < d.length → v.toNat < (d.getD i 0).toNat → sumN (d.set i v) < sumN d
  | [], i, v, hi, _ => by simp at hi
  | x :: r, 0, v, _, h => by
    have : v.toNat < x.toNat := h
    simp only [List.set_cons_zero, sumN]
    omega
  | x :: r, i + 1, v, hi, h => by
    have := sumN_set r i v (by simpa using hi) h
    simp only [List.set_cons_succ, sumN]
    omega
/-- One number is made better. -/
theorem good_step {m : Mp} {bl : List Cl} {b : Cl} {T : Nat} {d : List Int} (hf : formed m = true) (hT : m.W * m.H = (T : Int)) (h : Good m bl b T d) (hz : Zero m b d) {i : Nat} (hi : i < T) {x : Cl} (hx : x ∈ nr m (cellOf m i)) (ho : (x = b ∨ pass m bl x = true)) (hlt : d.getD (idx m x) 0 + 1 < d.getD i 0) :
    Good m bl b T (d.set i (d.getD (idx m x) 0 + 1)) ∧ Zero m b (d.set i (d.getD (idx m x) 0 + 1)) ∧ sumN (d.set i (d.getD (idx m x) 0 + 1)) < sumN d := by
  have hxi := nr_in hf hx
  have hj := (idx_lt hf hT hxi).1
  have lj := h.lo _ hj
  have li := h.lo i hi
  have hg := fun j => getD_set d i j (d.getD (idx m x) 0 + 1) (by rw [h.len]; exact hi)
  refine ⟨⟨by rw [List.length_set]; exact h.len, fun k hk => ?_, fun k hk hlt' => ?_⟩, fun c hc => ?_, ?_⟩
  · rw [hg k]
    split
    · omega
    · exact h.lo k hk
  · rw [hg k] at hlt' ⊢
    by_cases he : i = k
    · subst he
      rw [if_pos rfl]
      have hw := h.ways _ hj (by omega)
      rw [cell_idx hf hxi] at hw
      have e : (d.getD (idx m x) 0 + 1).toNat = (d.getD (idx m x) 0).toNat + 1 := by omega
      rw [e]
      exact wy_succ.2 ⟨x, hx, ho, hw⟩
    · rw [if_neg he] at hlt' ⊢
      exact h.ways k hk hlt'
  · have hzc := hz c hc
    rw [hg]
    by_cases he : i = idx m c
    · rw [← he] at hzc
      omega
    · rw [if_neg he]; exact hzc
  · refine sumN_set d i _ (by rw [h.len]; exact hi) ?_
    omega
/-- When none is made better, they are the field's. -/
theorem good_done {m : Mp} {bl : List Cl} {b : Cl} {T : Nat} {d : List Int} {f : Cl → Option Nat} (hf : formed m = true) (hT : m.W * m.H = (T : Int)) (h : Good m bl b T d) (hz : Zero m b d) (hF : Field m bl b f) (hset : ∀ i, i < T → ∀ x ∈ nr m (cellOf m i), (x = b ∨ pass m bl x = true) → d.getD i 0 ≤ d.getD (idx m x) 0 + 1) :
    ∀ i, i < T → d.getD i 0 = match f (cellOf m i) with | none => 1000000 | some n => (n : Int) := by
  have low : ∀ n i, i < T → wy m bl b n (cellOf m i) = true → d.getD i 0 ≤ n := by
    intro n
    induction n with
    | zero =>
      intro i hi hw
      have := hz _ (wy_zero.1 hw)
      rw [idx_cell hf] at this
      omega
    | succ n ih =>
      intro i hi hw
      obtain ⟨x, hx, ho, hwx⟩ := wy_succ.1 hw
      have hxi := nr_in hf hx
      have h1 := hset i hi x hx ho
      have h2 := ih (idx m x) (idx_lt hf hT hxi).1 (by rw [cell_idx hf hxi]; exact hwx)
      omega
  intro i hi
  have li := h.lo i hi
  cases hn : f (cellOf m i) with
  | none =>
    simp only
    by_cases hlt : d.getD i 0 < 1000000
    · obtain ⟨k, _, hk⟩ := hF.least _ _ (cell_in hf hT hi) (h.ways i hi hlt)
      rw [hn] at hk; cases hk
    · omega
  | some n =>
    simp only
    have h1 := low n i hi (hF.ways _ _ hn)
    have h4 := hF.few _ _ hn
    obtain ⟨k, hk, hkf⟩ := hF.least _ _ (cell_in hf hT hi) (h.ways i hi (by omega))
    rw [hn] at hkf
    cases hkf
    omega
end Go.Proofs.Ytemcbonmlmobkaa
