/- What a player's queue comes to, turn by turn (pure): what is trained comes out in its order, behind its turns. -/
import Derived.Test.YtjkcmedmojidgaaPl
namespace Go.Proofs.Ytjkcmedmojidgaa
open Go.RowKit
/-- What holds between two turns. -/
structure Gd (ore : Int) (p : Pl) (paid : Int) (want got : List Int) : Prop where
  b : p.b = true
  o : p.o = ore - paid
  o0 : 0 ≤ p.o
  pd : 0 ≤ paid
  wq : want = got ++ p.q
  len : p.q.length ≤ 3
  mem : ∀ x ∈ p.q, 2 ≤ x ∧ x ≤ 4
  l : p.q.length = 0 ∧ p.l = 0 ∨ 0 < p.q.length ∧ 1 ≤ p.l ∧ p.l ≤ 3
/-- How many turns are left at most. -/
def U (p : Pl) : Int := if p.q.length = 0 then 0 else p.l + 3 * ((p.q.length : Int) - 1)
theorem cost_in {k : Int} (h : 2 ≤ k ∧ k ≤ 4) : 0 ≤ cost k ∧ cost k ≤ 40 := by
  unfold cost st
  split
  · omega
  · split
    · omega
    · split
      · omega
      · split <;> omega
theorem turns_in {k : Int} (h : 2 ≤ k ∧ k ≤ 4) : 1 ≤ turns k ∧ turns k ≤ 3 := by
  unfold turns st
  split
  · omega
  · split
    · omega
    · split
      · omega
      · split <;> omega
theorem tr_same {p : Pl} {k : Int} (h : trE p k ≠ 0) : tr p k = p := by unfold tr; rw [if_neg h]
theorem trE_full {p : Pl} {k : Int} (h : trE p k = 6) : 3 ≤ p.q.length := by
  unfold trE at h
  split at h
  · omega
  · split at h
    · omega
    · split at h
      · assumption
      · split at h <;> omega
theorem trE_ok {p : Pl} {k : Int} (h : trE p k = 0) : p.b = true ∧ (2 ≤ k ∧ k ≤ 4) ∧ p.q.length < 3 ∧ cost k ≤ p.o := by
  unfold trE at h
  split at h
  · omega
  · rename_i h1
    split at h
    · omega
    · rename_i h2
      split at h
      · omega
      · split at h
        · omega
        · refine ⟨by simpa using h1, ?_, by omega, by omega⟩
          have : isTr k = true := by simpa using h2
          simpa [isTr] using this
theorem gd_train {ore : Int} {p : Pl} {paid : Int} {want got : List Int} (h : Gd ore p paid want got) {k : Int} (he : trE p k = 0) : Gd ore (tr p k) (paid + cost k) (want ++ [k]) got ∧ U (tr p k) ≤ U p + 3 ∧ 0 ≤ cost k ∧ cost k ≤ 40 := by
  obtain ⟨h1, h2, h3, h4⟩ := trE_ok he
  have hc := cost_in h2
  have ht := turns_in h2
  have hl := h.l
  have e : tr p k = ⟨p.o - cost k, p.b, p.q ++ [k], if p.q.length = 0 then turns k else p.l⟩ := by unfold tr; rw [if_pos he]
  refine ⟨?_, ?_, hc⟩
  · rw [e]
    refine ⟨h1, ?_, ?_, ?_, ?_, ?_, ?_, ?_⟩
    · have := h.o; simp only; omega
    · simp only; omega
    · have := h.pd; omega
    · rw [h.wq, List.append_assoc]
    · simp only [List.length_append, List.length_cons, List.length_nil]; omega
    · intro x hx
      rcases List.mem_append.1 hx with hx | hx
      · exact h.mem x hx
      · rw [List.mem_singleton] at hx; subst hx; exact h2
    · right
      simp only [List.length_append, List.length_cons, List.length_nil]
      refine ⟨by omega, ?_⟩
      split
      · exact ht
      · omega
  · rw [e]
    unfold U
    simp only [List.length_append, List.length_cons, List.length_nil]
    rw [if_neg (by omega)]
    split
    · omega
    · omega
theorem wk_of {p : Pl} (hb : p.b = true) (hq : 0 < p.q.length) (hl : 0 < p.l) : wk p = ⟨p.o, p.b, p.q, p.l - 1⟩ := by
  unfold wk
  rw [if_neg (by rw [hb]; simp only [Bool.true_eq_false, false_or]; omega), if_pos hl]
theorem wk_q (p : Pl) : (wk p).q = p.q := by
  unfold wk
  split
  · rfl
  · split <;> rfl
theorem wkV_of {p : Pl} (hb : p.b = true) (hq : 0 < p.q.length) (hl : 0 < p.l) : wkV p = if 0 < p.l - 1 then 0 else p.q.getD 0 0 := by
  unfold wkV
  rw [if_neg (by rw [hb]; simp only [Bool.true_eq_false, false_or]; omega), wk_of hb hq hl]
theorem head_mem {q : List Int} (h : 0 < q.length) : q.getD 0 0 ∈ q := by
  cases q with
  | nil => simp at h
  | cons a l => simp
theorem gd_work {ore : Int} {p : Pl} {paid : Int} {want got : List Int} (h : Gd ore p paid want got) : (wkV p ≤ 0 ∧ Gd ore (wk p) paid want got ∧ U (wk p) ≤ max (U p - 1) 0) ∨ (0 < wkV p ∧ I64 (wkV p) ∧ ppE (wk p) = 0 ∧ Gd ore (pp (wk p)) paid want (got ++ [wkV p]) ∧ U (pp (wk p)) ≤ U p - 1) := by
  rcases h.l with ⟨hl, hl0⟩ | ⟨hq, hl1, hl3⟩
  · left
    have e : wk p = p := by unfold wk; rw [if_pos (Or.inr hl)]
    have e2 : wkV p = 0 := by unfold wkV; rw [if_pos (Or.inr hl)]
    rw [e, e2]
    exact ⟨Int.le_refl 0, h, by unfold U; rw [if_pos hl]; omega⟩
  · have e := wk_of h.b hq (by omega)
    have e2 := wkV_of h.b hq (by omega)
    have hm := h.mem _ (head_mem hq)
    by_cases h1 : 0 < p.l - 1
    · left
      rw [if_pos h1] at e2
      rw [e, e2]
      refine ⟨Int.le_refl 0, ⟨h.b, h.o, h.o0, h.pd, h.wq, h.len, h.mem, Or.inr ⟨hq, by simp only; omega, by simp only; omega⟩⟩, ?_⟩
      unfold U
      simp only
      rw [if_neg (by omega), if_neg (by omega)]
      omega
    · right
      rw [if_neg h1] at e2
      have hle : p.l = 1 := by omega
      have e3 : ppE (wk p) = 0 := by
        rw [e]; unfold ppE
        rw [if_neg (by simp only; omega)]
      have e4 : pp (wk p) = ⟨p.o, p.b, p.q.drop 1, turns (p.q.getD 1 0)⟩ := by unfold pp; rw [e3, if_pos rfl, e]
      refine ⟨by omega, by unfold I64; omega, e3, ?_, ?_⟩
      · rw [e4, e2]
        have hd : p.q = p.q.getD 0 0 :: p.q.drop 1 := by
          cases hqq : p.q with
          | nil => rw [hqq] at hq; simp at hq
          | cons a l => simp
        refine ⟨h.b, h.o, h.o0, h.pd, ?_, ?_, fun x hx => h.mem x (List.mem_of_mem_drop hx), ?_⟩
        · rw [h.wq, List.append_assoc]
          exact congrArg (got ++ ·) hd
        · have := h.len; simp only [List.length_drop]; omega
        · simp only [List.length_drop]
          by_cases h2 : p.q.length = 1
          · left
            refine ⟨by omega, ?_⟩
            have : p.q.getD 1 0 = 0 := by rw [List.getD, List.getElem?_eq_none (by omega)]; rfl
            rw [this]; rfl
          · right
            have hm1 : p.q.getD 1 0 ∈ p.q := by
              rw [List.getD, List.getElem?_eq_getElem (by omega)]
              exact List.getElem_mem _
            exact ⟨by omega, turns_in (h.mem _ hm1)⟩
      · rw [e4]
        unfold U
        simp only [List.length_drop]
        rw [if_neg (by omega : ¬ p.q.length = 0)]
        split
        · omega
        · have hm1 : p.q.getD 1 0 ∈ p.q := by
            rw [List.getD, List.getElem?_eq_getElem (by omega)]
            exact List.getElem_mem _
          have := turns_in (h.mem _ hm1)
          omega
theorem U_nonneg {ore : Int} {p : Pl} {paid : Int} {want got : List Int} (h : Gd ore p paid want got) : 0 ≤ U p ∧ (U p ≤ 0 → p.q = []) ∧ (3 ≤ p.q.length → 1 ≤ U p) := by
  have := h.l
  unfold U
  split
  · exact ⟨Int.le_refl 0, fun _ => List.eq_nil_of_length_eq_zero (by assumption), fun _ => by omega⟩
  · exact ⟨by omega, fun _ => by omega, fun _ => by omega⟩
end Go.Proofs.Ytjkcmedmojidgaa
