/- The reference's pairs, turned (pure). -/
import Derived.Test.YtnilgnnlobiojaaRef
namespace Go.Proofs.Ytnilgnnlobiojaa
open Go.RowKit
theorem Rep.none {F : Int → Option Cl} {R : List Pr} (h : Rep F R) {i : Int} (hi : ∀ x ∈ R, x.1 ≠ i) : F i = none := by
  cases hF : F i with
  | none => rfl
  | some c => exact absurd rfl (hi _ ((h.2 i c).2 hF))
theorem Rep.some {F : Int → Option Cl} {R : List Pr} (h : Rep F R) {k : Nat} (hk : k < R.length) : F R[k].1 = some R[k].2 := (h.2 _ _).1 (List.getElem_mem hk)
theorem Rep.set {F : Int → Option Cl} {R : List Pr} (h : Rep F R) {k : Nat} (hk : k < R.length) {i : Int} (hi : R[k].1 = i) (c : Cl) : Rep (insF F i c) (R.set k (i, c)) := by
  have hfst : (R.set k (i, c)).map Prod.fst = R.map Prod.fst := by
    rw [List.map_set]
    apply List.ext_getElem?
    intro j
    rw [List.getElem?_set]
    by_cases hj : k = j
    · subst hj
      rw [if_pos rfl, if_pos (by simpa using hk), List.getElem?_map, List.getElem?_eq_getElem hk]
      simp [hi]
    · rw [if_neg hj]
  have hnd := h.nodup
  refine ⟨?_, fun j d => ?_⟩
  · have h1 : (R.map Prod.fst).Pairwise (· < ·) := List.pairwise_map.2 h.1
    rw [← hfst] at h1
    exact List.pairwise_map.1 h1
  · unfold insF
    by_cases hj : j = i
    · rw [if_pos hj, hj]
      constructor
      · intro hm
        obtain ⟨m, hm1, hm2⟩ := List.getElem_of_mem hm
        by_cases hmk : m = k
        · subst hmk
          rw [List.getElem_set_self] at hm2
          cases hm2; rfl
        · rw [List.getElem_set_ne (Ne.symm hmk)] at hm2
          have hm3 : m < R.length := by simpa using hm1
          have h2 : (R.map Prod.fst)[m]'(by simpa using hm3) = (R.map Prod.fst)[k]'(by simpa using hk) := by simp [hm2, hi]
          exact absurd ((List.getElem_inj hnd).1 h2) hmk
      · intro e
        cases e
        exact List.mem_iff_getElem.2 ⟨k, by simpa using hk, List.getElem_set_self _⟩
    · rw [if_neg hj, ← h.2]
      constructor
      · intro hm
        rcases List.mem_or_eq_of_mem_set hm with h1 | h1
        · exact h1
        · cases h1; exact absurd rfl hj
      · intro hm
        obtain ⟨m, hm1, hm2⟩ := List.getElem_of_mem hm
        have hmk : m ≠ k := by
          rintro rfl
          rw [hm2] at hi
          exact hj hi
        exact List.mem_iff_getElem.2 ⟨m, by simpa using hm1, by rw [List.getElem_set_ne (Ne.symm hmk)]; exact hm2⟩
theorem Rep.ins {F : Int → Option Cl} {R : List Pr} (h : Rep F R) {k : Nat} {i : Int} (hlo : ∀ x ∈ R.take k, x.1 < i) (hhi : ∀ x ∈ R.drop k, i < x.1) (c : Cl) : Rep (insF F i c) (R.take k ++ (i, c) :: R.drop k) := by
  have hp : (R.take k ++ R.drop k).Pairwise (fun a b => a.1 < b.1) := by rw [List.take_append_drop]; exact h.1
  rw [List.pairwise_append] at hp
  refine ⟨?_, fun j d => ?_⟩
  · rw [List.pairwise_append, List.pairwise_cons]
    refine ⟨hp.1, ⟨fun x hx => hhi x hx, hp.2.1⟩, fun a ha b hb => ?_⟩
    rcases List.mem_cons.1 hb with rfl | hb
    · exact hlo a ha
    · exact hp.2.2 a ha b hb
  · have hm : (j, d) ∈ R.take k ++ (i, c) :: R.drop k ↔ (j, d) = (i, c) ∨ (j, d) ∈ R := by
      have h1 : (j, d) ∈ R ↔ (j, d) ∈ R.take k ++ R.drop k := by rw [List.take_append_drop]
      rw [h1]
      simp only [List.mem_append, List.mem_cons]
      constructor
      · rintro (h | h | h)
        · exact Or.inr (Or.inl h)
        · exact Or.inl h
        · exact Or.inr (Or.inr h)
      · rintro (h | h | h)
        · exact Or.inr (Or.inl h)
        · exact Or.inl h
        · exact Or.inr (Or.inr h)
    rw [hm]
    unfold insF
    by_cases hj : j = i
    · rw [if_pos hj, hj]
      constructor
      · rintro (e | e)
        · cases e; rfl
        · have h1 : (i, d) ∈ R.take k ++ R.drop k := by rw [List.take_append_drop]; exact e
          rcases List.mem_append.1 h1 with h2 | h2
          · have := hlo _ h2; simp at this
          · have := hhi _ h2; simp at this
      · intro e
        cases e
        exact Or.inl rfl
    · rw [if_neg hj, ← h.2]
      constructor
      · rintro (e | e)
        · cases e; exact absurd rfl hj
        · exact e
      · exact Or.inr
theorem Rep.del {F : Int → Option Cl} {R : List Pr} (h : Rep F R) {k : Nat} (hk : k < R.length) {i : Int} (hi : R[k].1 = i) : Rep (remF F i) (R.take k ++ R.drop (k + 1)) := by
  have hnd := h.nodup
  have hp : (R.take k ++ R.drop k).Pairwise (fun a b => a.1 < b.1) := by rw [List.take_append_drop]; exact h.1
  have hd : R.drop k = R[k] :: R.drop (k + 1) := (List.drop_eq_getElem_cons hk)
  rw [hd, List.pairwise_append, List.pairwise_cons] at hp
  refine ⟨?_, fun j d => ?_⟩
  · rw [List.pairwise_append]
    exact ⟨hp.1, hp.2.1.2, fun a ha b hb => hp.2.2 a ha b (List.mem_cons_of_mem _ hb)⟩
  · have hm : (j, d) ∈ R ↔ (j, d) = R[k] ∨ (j, d) ∈ R.take k ++ R.drop (k + 1) := by
      have h1 : (j, d) ∈ R ↔ (j, d) ∈ R.take k ++ R.drop k := by rw [List.take_append_drop]
      rw [h1, hd]
      simp only [List.mem_append, List.mem_cons]
      constructor
      · rintro (h | h | h)
        · exact Or.inr (Or.inl h)
        · exact Or.inl h
        · exact Or.inr (Or.inr h)
      · rintro (h | h | h)
        · exact Or.inr (Or.inl h)
        · exact Or.inl h
        · exact Or.inr (Or.inr h)
    unfold remF
    by_cases hj : j = i
    · rw [if_pos hj]
      constructor
      · intro h1
        rcases List.mem_append.1 h1 with h2 | h2
        · have := hp.2.2 _ h2 R[k] (List.mem_cons_self ..)
          rw [hi, hj] at this; simp at this
        · have := hp.2.1.1 _ h2
          rw [hi, hj] at this; simp at this
      · intro e; cases e
    · rw [if_neg hj, ← h.2, hm]
      constructor
      · exact Or.inr
      · rintro (e | e)
        · exact absurd (by rw [← hi, ← e]) hj
        · exact e
end Go.Proofs.Ytnilgnnlobiojaa
