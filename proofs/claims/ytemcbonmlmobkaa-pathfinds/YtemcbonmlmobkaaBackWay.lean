/- A way back has as many cells. -/
import Derived.Test.YtemcbonmlmobkaaFind
namespace Go.Proofs.Ytemcbonmlmobkaa
theorem pass_in {m : Mp} {bl : List Cl} {c : Cl} (h : pass m bl c = true) : inn m c = true := by
  unfold pass at h
  simp only [Bool.and_eq_true] at h
  exact h.1.1
theorem wy_snoc {m : Mp} {bl : List Cl} {b e : Cl} (hb : pass m bl b = true) (he : e ∈ nr m b) : ∀ {n : Nat} {c : Cl}, wy m bl b n c = true → wy m bl e (n + 1) c = true
  | 0, c, h => by
    rw [wy_zero] at h
    subst h
    exact wy_succ.2 ⟨e, he, Or.inl rfl, wy_zero.2 rfl⟩
  | n + 1, c, h => by
    obtain ⟨x, hx, hp, hw⟩ := wy_succ.1 h
    refine wy_succ.2 ⟨x, hx, Or.inr ?_, wy_snoc hb he hw⟩
    rcases hp with rfl | hp
    · exact hb
    · exact hp
theorem wy_back {m : Mp} {bl : List Cl} (hf : formed m = true) {b : Cl} (hb : pass m bl b = true) : ∀ {n : Nat} {c : Cl}, pass m bl c = true → wy m bl b n c = true → wy m bl c n b = true
  | 0, c, _, h => by
    rw [wy_zero] at h ⊢
    exact h.symm
  | n + 1, c, hc, h => by
    obtain ⟨x, hx, hp, hw⟩ := wy_succ.1 h
    have hpx : pass m bl x = true := by
      rcases hp with rfl | hp
      · exact hb
      · exact hp
    exact wy_snoc hpx (nr_symm hf (pass_in hc) hx) (wy_back hf hb hpx hw)
theorem wy_both {m : Mp} {bl : List Cl} (hf : formed m = true) {a b : Cl} (ha : pass m bl a = true) (hb : pass m bl b = true) (n : Nat) : wy m bl b n a = wy m bl a n b := by
  rw [Bool.eq_iff_iff]
  exact ⟨wy_back hf hb ha, wy_back hf ha hb⟩
theorem way_length {m : Mp} {bl : List Cl} {b : Cl} : ∀ {n : Nat} {c : Cl}, ds m bl b n c = true → (way m bl b n c).length = n
  | 0, _, _ => rfl
  | n + 1, c, h => by
    obtain ⟨y, hy, hp, hd⟩ := ds_succ h
    rw [way]
    cases hf : (nr m c).find? (fun x => (x == b || pass m bl x) && ds m bl b n x) with
    | none =>
      rw [List.find?_eq_none] at hf
      refine absurd ?_ (hf y hy)
      rw [Bool.and_eq_true, Bool.or_eq_true, beq_iff_eq]
      exact ⟨hp, hd⟩
    | some x =>
      have h1 := List.find?_some hf
      rw [Bool.and_eq_true] at h1
      simp only [List.length_cons]
      rw [way_length h1.2]
theorem back_facts {m : Mp} {bl : List Cl} {a b : Cl} {most : Int} (hf : formed m = true) (ha : pass m bl a = true) (hb : pass m bl b = true) (h0 : 0 ≤ most) :
    ∃ (l1 l2 : List Cl) (e : Int) (k : Nat), findV m bl a b most = (l1, e) ∧ findV m bl b a most = (l2, e) ∧ l1.length = k ∧ l2.length = k ∧ (k : Int) ≤ most ∧ k ≤ 1000 ∧ (e = 0 ∨ e = 3 ∨ e = 12) := by
  have e1 : (inn m a && inn m b) = true := by rw [pass_in ha, pass_in hb]; rfl
  have e2 : (inn m b && inn m a) = true := by rw [pass_in ha, pass_in hb]; rfl
  have he : (fun n => wy m bl a n b) = (fun n => wy m bl b n a) := by
    funext n
    exact (wy_both hf ha hb n).symm
  unfold findV
  rw [if_neg (by simp [hf]), if_neg (by simp [e1]), if_neg (by simp [hf]), if_neg (by simp [e2]), he]
  cases hr : (List.range 1001).find? (fun n => wy m bl b n a) with
  | none => exact ⟨[], [], 3, 0, rfl, rfl, rfl, rfl, h0, by omega, Or.inr (Or.inl rfl)⟩
  | some n =>
    simp only
    by_cases hm : (n : Int) > most
    · rw [if_pos hm, if_pos hm]
      exact ⟨[], [], 12, 0, rfl, rfl, rfl, rfl, h0, by omega, Or.inr (Or.inr rfl)⟩
    · rw [if_neg hm, if_neg hm]
      rw [List.find?_range_eq_some] at hr
      obtain ⟨h1, h2, h3⟩ := hr
      have d1 : ds m bl b n a = true := ds_iff.2 ⟨h1, fun k hk => by simpa using h3 k hk⟩
      have d2 : ds m bl a n b = true := ds_iff.2 ⟨by rw [← wy_both hf ha hb]; exact h1, fun k hk => by rw [← wy_both hf ha hb]; simpa using h3 k hk⟩
      rw [List.mem_range] at h2
      exact ⟨_, _, 0, n, rfl, rfl, way_length d1, way_length d2, by omega, by omega, Or.inl rfl⟩
end Go.Proofs.Ytemcbonmlmobkaa
