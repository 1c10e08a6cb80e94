/- Ways on a map: how many steps it is, and which cells come first. -/
import Derived.Test.YtemcbonmlmobkaaSeenFacts
namespace Go.Proofs.Ytemcbonmlmobkaa
abbrev Cl := Int × Int
def nr (m : Mp) (c : Cl) : List Cl := near m c.1 c.2
def inn (m : Mp) (c : Cl) : Bool := holds m c.1 c.2
/-- May it be gone through? -/
def pass (m : Mp) (bl : List Cl) (c : Cl) : Bool := inn m c && !rock m c.1 c.2 && !bl.contains c
/-- Is there a way of n steps from c to b? -/
def wy (m : Mp) (bl : List Cl) (b : Cl) : Nat → Cl → Bool
  | 0, c => c == b
  | n + 1, c => (nr m c).any fun x => (x == b || pass m bl x) && wy m bl b n x
/-- Is the shortest way from c of n steps? -/
def ds (m : Mp) (bl : List Cl) (b : Cl) (n : Nat) (c : Cl) : Bool := wy m bl b n c && !(List.range n).any (fun k => wy m bl b k c)
/-- The shortest way from c, which is n steps away: at each cell the first neighbour that is closer. -/
def way (m : Mp) (bl : List Cl) (b : Cl) : Nat → Cl → List Cl
  | 0, _ => []
  | n + 1, c => match (nr m c).find? (fun x => (x == b || pass m bl x) && ds m bl b n x) with
    | none => []
    | some x => x :: way m bl b n x
theorem ds_iff {m : Mp} {bl : List Cl} {b c : Cl} {n : Nat} : ds m bl b n c = true ↔ wy m bl b n c = true ∧ ∀ k, k < n → wy m bl b k c = false := by
  unfold ds
  rw [Bool.and_eq_true, Bool.not_eq_true', List.any_eq_false]
  simp
theorem ds_unique {m : Mp} {bl : List Cl} {b c : Cl} {n k : Nat} (h : ds m bl b n c = true) (h' : ds m bl b k c = true) : n = k := by
  rw [ds_iff] at h h'
  rcases Nat.lt_trichotomy n k with hl | hl | hl
  · have := h'.2 n hl; rw [h.1] at this; cases this
  · exact hl
  · have := h.2 k hl; rw [h'.1] at this; cases this
/-- Whoever has a way has a shortest one. -/
theorem ds_of_wy {m : Mp} {bl : List Cl} {b c : Cl} : ∀ {n : Nat}, wy m bl b n c = true → ∃ k, k ≤ n ∧ ds m bl b k c = true := by
  intro n
  induction n using Nat.strongRecOn with
  | _ n ih =>
    intro h
    by_cases hk : ∃ k, k < n ∧ wy m bl b k c = true
    · obtain ⟨k, hk, hw⟩ := hk
      obtain ⟨j, hj, hd⟩ := ih k hk hw
      exact ⟨j, by omega, hd⟩
    · refine ⟨n, Nat.le_refl _, ds_iff.2 ⟨h, fun k hk' => ?_⟩⟩
      cases hw : wy m bl b k c with
      | false => rfl
      | true => exact absurd ⟨k, hk', hw⟩ hk
theorem wy_succ {m : Mp} {bl : List Cl} {b c : Cl} {n : Nat} : wy m bl b (n + 1) c = true ↔ ∃ x, x ∈ nr m c ∧ (x = b ∨ pass m bl x = true) ∧ wy m bl b n x = true := by
  rw [wy, List.any_eq_true]
  constructor
  · rintro ⟨x, hx, h⟩
    rw [Bool.and_eq_true, Bool.or_eq_true, beq_iff_eq] at h
    exact ⟨x, hx, h.1, h.2⟩
  · rintro ⟨x, hx, h, hw⟩
    exact ⟨x, hx, by rw [Bool.and_eq_true, Bool.or_eq_true, beq_iff_eq]; exact ⟨h, hw⟩⟩
theorem wy_zero {m : Mp} {bl : List Cl} {b c : Cl} : wy m bl b 0 c = true ↔ c = b := by rw [wy, beq_iff_eq]
/-- From a cell n + 1 steps away there is a neighbour n steps away. -/
theorem ds_succ {m : Mp} {bl : List Cl} {b c : Cl} {n : Nat} (h : ds m bl b (n + 1) c = true) : ∃ x, x ∈ nr m c ∧ (x = b ∨ pass m bl x = true) ∧ ds m bl b n x = true := by
  rw [ds_iff] at h
  obtain ⟨x, hx, hp, hw⟩ := wy_succ.1 h.1
  obtain ⟨k, hk, hd⟩ := ds_of_wy hw
  refine ⟨x, hx, hp, ?_⟩
  have : k = n := by
    rcases Nat.lt_or_ge k n with hl | hl
    · have h2 := h.2 (k + 1) (by omega)
      have h3 : wy m bl b (k + 1) c = true := wy_succ.2 ⟨x, hx, hp, (ds_iff.1 hd).1⟩
      rw [h3] at h2; cases h2
    · omega
  rw [← this]; exact hd
theorem ds_zero {m : Mp} {bl : List Cl} {b c : Cl} : ds m bl b 0 c = true ↔ c = b := by
  rw [ds_iff, wy_zero]
  exact ⟨fun h => h.1, fun h => ⟨h, fun k hk => by omega⟩⟩
/-- Neighbours, of a formed map. -/
theorem nr_iff {m : Mp} (hf : formed m = true) {c x : Cl} (hc : inn m c = true) : x ∈ nr m c ↔ inn m x = true ∧ (x = (c.1, c.2 - 1) ∨ x = (c.1 + 1, c.2) ∨ x = (c.1, c.2 + 1) ∨ x = (c.1 - 1, c.2)) := by
  have hp := holds_of hc
  obtain ⟨f1, f2, _⟩ := formed_of hf
  have e : nbs c.1 c.2 = [(c.1, c.2 - 1), (c.1 + 1, c.2), (c.1, c.2 + 1), (c.1 - 1, c.2)] := by
    unfold nbs
    rw [wrap_small (by omega), wrap_small (by omega), wrap_small (by omega), wrap_small (by omega)]
  unfold nr near
  rw [if_pos hf, e, List.mem_filter]
  simp only [List.mem_cons, List.not_mem_nil, or_false]
  exact And.comm
theorem nr_in {m : Mp} (hf : formed m = true) {c x : Cl} (h : x ∈ nr m c) : inn m x = true := by
  unfold nr near at h
  rw [if_pos hf, List.mem_filter] at h
  exact h.2
theorem nr_symm {m : Mp} (hf : formed m = true) {c x : Cl} (hc : inn m c = true) (h : x ∈ nr m c) : c ∈ nr m x := by
  have hx := nr_in hf h
  rw [nr_iff hf hc] at h
  rw [nr_iff hf hx]
  refine ⟨hc, ?_⟩
  rcases c with ⟨c1, c2⟩
  rcases x with ⟨x1, x2⟩
  simp only [Prod.mk.injEq] at h ⊢
  omega
theorem nr_ne {m : Mp} (hf : formed m = true) {c x : Cl} (hc : inn m c = true) (h : x ∈ nr m c) : x ≠ c := by
  rw [nr_iff hf hc] at h
  rcases c with ⟨c1, c2⟩
  rcases x with ⟨x1, x2⟩
  simp only [Prod.mk.injEq, ne_eq] at h ⊢
  omega
/-- What Find answers: the cells and the errno. -/
def findV (m : Mp) (bl : List Cl) (a b : Cl) (most : Int) : List Cl × Int :=
  if formed m = false then ([], 4) else if (inn m a && inn m b) = false then ([], 2) else
    match (List.range 1001).find? (fun n => wy m bl b n a) with
    | none => ([], 3)
    | some n => if (n : Int) > most then ([], 12) else (way m bl b n a, 0)
end Go.Proofs.Ytemcbonmlmobkaa
