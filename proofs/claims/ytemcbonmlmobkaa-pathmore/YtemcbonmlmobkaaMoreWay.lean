/- One cell more is blocked. -/
import Derived.Test.YtemcbonmlmobkaaRestWay
namespace Go.Proofs.Ytemcbonmlmobkaa
theorem pass_more {m : Mp} {bl : List Cl} {c x : Cl} : pass m (bl ++ [c]) x = true ↔ pass m bl x = true ∧ x ≠ c := by
  unfold pass
  have e : (bl ++ [c]).contains x = (bl.contains x || x == c) := by
    rw [Bool.eq_iff_iff]
    simp
  rw [e]
  by_cases h : x = c <;> simp [h]
theorem wy_less {m : Mp} {bl : List Cl} {b c : Cl} : ∀ {n : Nat} {x : Cl}, wy m (bl ++ [c]) b n x = true → wy m bl b n x = true
  | 0, _, h => h
  | n + 1, x, h => by
    obtain ⟨y, hy, hp, hw⟩ := wy_succ.1 h
    refine wy_succ.2 ⟨y, hy, ?_, wy_less hw⟩
    rcases hp with hp | hp
    · exact Or.inl hp
    · exact Or.inr (pass_more.1 hp).1
theorem way_succ' {m : Mp} {bl : List Cl} {b c : Cl} {n : Nat} (hd : ds m bl b (n + 1) c = true) : ∃ x, way m bl b (n + 1) c = x :: way m bl b n x ∧ ds m bl b n x = true ∧ x ∈ nr m c ∧ (x = b ∨ pass m bl x = true) := by
  obtain ⟨y, hy, hp, hyd⟩ := ds_succ hd
  cases hf : (nr m c).find? (fun x => (x == b || pass m bl x) && ds m bl b n x) with
  | none =>
    rw [List.find?_eq_none] at hf
    refine absurd ?_ (hf y hy)
    rw [Bool.and_eq_true, Bool.or_eq_true, beq_iff_eq]
    exact ⟨hp, hyd⟩
  | some x =>
    have h1 := List.find?_some hf
    rw [Bool.and_eq_true, Bool.or_eq_true, beq_iff_eq] at h1
    exact ⟨x, by rw [way, hf], h1.2, List.mem_of_find?_eq_some hf, h1.1⟩
theorem wy_keep {m : Mp} {bl : List Cl} {b c : Cl} : ∀ {n : Nat} {x : Cl}, ds m bl b n x = true → (c ∉ way m bl b n x ∨ c = b) → wy m (bl ++ [c]) b n x = true
  | 0, _, hd, _ => (ds_iff.1 hd).1
  | n + 1, x, hd, hc => by
    obtain ⟨y, h1, h2, h3, h4⟩ := way_succ' hd
    rw [h1] at hc
    refine wy_succ.2 ⟨y, h3, ?_, wy_keep h2 ?_⟩
    · by_cases hb : y = b
      · exact Or.inl hb
      · refine Or.inr (pass_more.2 ⟨?_, ?_⟩)
        · rcases h4 with h4 | h4
          · exact absurd h4 hb
          · exact h4
        · rcases hc with hc | hc
          · exact fun he => hc (by rw [he]; simp)
          · rw [hc]; exact hb
    · rcases hc with hc | hc
      · exact Or.inl (fun h => hc (by simp [h]))
      · exact Or.inr hc
theorem way_clean {m : Mp} {bl : List Cl} {b : Cl} : ∀ {n : Nat} {x : Cl}, ds m bl b n x = true → ∀ y ∈ way m bl b n x, y = b ∨ pass m bl y = true
  | 0, _, _, y, hy => by cases hy
  | n + 1, x, hd, y, hy => by
    obtain ⟨z, h1, h2, _, h4⟩ := way_succ' hd
    rw [h1] at hy
    rcases List.mem_cons.1 hy with rfl | hy
    · exact h4
    · exact way_clean h2 y hy
theorem more_facts {m : Mp} {bl : List Cl} {a b c : Cl} {l l2 : List Cl} {e f : Int} (h1 : findV m bl a b 1000 = (l, e)) (h2 : findV m (bl ++ [c]) a b 1000 = (l2, f)) :
    l.length ≤ 1000 ∧ l2.length ≤ 1000 ∧ (e ≠ 0 ∧ f = e ∨ e = 0 ∧ ((l.contains c = false ∨ c = b) ∧ f = 0 ∧ l2.length = l.length ∨ l.contains c = true ∧ c ≠ b ∧ (f = 3 ∨ f = 0 ∧ l.length ≤ l2.length ∧ l2.contains c = false))) := by
  have g1 : l.length ≤ 1000 := by
    rcases findV_ok h1 with ⟨_, n, _, _, _, _, hn, _, hl⟩ | ⟨_, rfl⟩
    · omega
    · simp
  have g2 : l2.length ≤ 1000 := by
    rcases findV_ok h2 with ⟨_, n, _, _, _, _, hn, _, hl⟩ | ⟨_, rfl⟩
    · omega
    · simp
  refine ⟨g1, g2, ?_⟩
  rcases findV_ok h1 with ⟨he, n, hf, ha, hb, hd, hn, hl, hln⟩ | ⟨he, _⟩
  · refine Or.inr ⟨he, ?_⟩
    by_cases hc : l.contains c = false ∨ c = b
    · refine Or.inl ⟨hc, ?_⟩
      have hc' : c ∉ way m bl b n a ∨ c = b := by
        rcases hc with hc | hc
        · left
          rw [hl] at hc
          intro hm
          rw [← List.contains_iff_mem] at hm
          rw [hm] at hc; cases hc
        · exact Or.inr hc
      have hk := wy_keep hd hc'
      have hd2 : ds m (bl ++ [c]) b n a = true := ds_iff.2 ⟨hk, fun k hk' => by
        cases hw : wy m (bl ++ [c]) b k a with
        | false => rfl
        | true =>
          have := (ds_iff.1 hd).2 k hk'
          rw [wy_less hw] at this; cases this⟩
      rw [findV_at hf ha hb hd2 hn (by omega)] at h2
      cases h2
      exact ⟨rfl, by rw [way_length hd2, hln]⟩
    · have hc1 : l.contains c = true := by
        cases h : l.contains c with
        | true => rfl
        | false => exact absurd (Or.inl h) hc
      have hcb : c ≠ b := fun h => hc (Or.inr h)
      refine Or.inr ⟨hc1, hcb, ?_⟩
      rcases findV_ok h2 with ⟨hf2, n2, _, _, _, hd2, hn2, hl2, hln2⟩ | ⟨hf2, _⟩
      · refine Or.inr ⟨hf2, ?_, ?_⟩
        · rw [hln, hln2]
          rcases Nat.lt_or_ge n2 n with h | h
          · have := (ds_iff.1 hd).2 n2 h
            rw [wy_less (ds_iff.1 hd2).1] at this; cases this
          · exact h
        · rw [Bool.eq_false_iff]
          intro hm
          rw [List.contains_iff_mem, hl2] at hm
          rcases way_clean hd2 c hm with h | h
          · exact hcb h
          · exact (pass_more.1 h).2 rfl
      · left
        unfold findV at h2
        rw [if_neg (by simp [hf]), if_neg (by simp [ha, hb])] at h2
        split at h2
        · cases h2; rfl
        · rename_i k hr
          rw [List.find?_range_eq_some] at hr
          have := List.mem_range.1 hr.2.1
          rw [if_neg (by omega)] at h2
          cases h2
          exact absurd rfl hf2
  · refine Or.inl ⟨he, ?_⟩
    unfold findV at h1 h2
    split at h1
    · rename_i h
      cases h1
      rw [if_pos h] at h2
      cases h2; rfl
    · rename_i hf
      rw [if_neg hf] at h2
      split at h1
      · rename_i h
        cases h1
        rw [if_pos h] at h2
        cases h2; rfl
      · rename_i hi
        rw [if_neg hi] at h2
        split at h1
        · rename_i hr
          cases h1
          rw [List.find?_eq_none] at hr
          have hr2 : (List.range 1001).find? (fun n => wy m (bl ++ [c]) b n a) = none := by
            rw [List.find?_eq_none]
            exact fun n hn hw => hr n hn (wy_less hw)
          rw [hr2] at h2
          cases h2; rfl
        · rename_i k hr
          rw [List.find?_range_eq_some] at hr
          have := List.mem_range.1 hr.2.1
          rw [if_neg (by omega)] at h1
          cases h1
          exact absurd rfl he
end Go.Proofs.Ytemcbonmlmobkaa
