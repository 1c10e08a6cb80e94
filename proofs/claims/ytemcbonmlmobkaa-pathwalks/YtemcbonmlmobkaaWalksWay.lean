/- The cells of a way: what the law PathWalks asks of them. -/
import Derived.Test.YtemcbonmlmobkaaRestWay
namespace Go.Proofs.Ytemcbonmlmobkaa
open Go.RowKit
theorem way_chain {m : Mp} {bl : List Cl} {b : Cl} : ∀ {n : Nat} {c : Cl}, ds m bl b n c = true → ∀ i, i < n → (way m bl b n c).getD i (0, 0) ∈ nr m ((c :: way m bl b n c).getD i (0, 0)) ∧ ((way m bl b n c).getD i (0, 0) = b ∨ pass m bl ((way m bl b n c).getD i (0, 0)) = true)
  | 0, _, _, i, hi => by omega
  | n + 1, c, hd, i, hi => by
    obtain ⟨y, hy, hp, hyd⟩ := ds_succ hd
    cases hf : (nr m c).find? (fun x => (x == b || pass m bl x) && ds m bl b n x) with
    | none =>
      rw [List.find?_eq_none] at hf
      refine absurd ?_ (hf y hy)
      rw [Bool.and_eq_true, Bool.or_eq_true, beq_iff_eq]
      exact ⟨hp, hyd⟩
    | some x =>
      have h1 := List.find?_some hf
      rw [Bool.and_eq_true, Bool.or_eq_true, beq_iff_eq] at h1
      have h2 := List.mem_of_find?_eq_some hf
      have e : way m bl b (n + 1) c = x :: way m bl b n x := by rw [way, hf]
      rw [e]
      cases i with
      | zero => exact ⟨h2, h1.1⟩
      | succ i =>
        have := way_chain h1.2 i (by omega)
        rw [List.getD_cons_succ, List.getD_cons_succ]
        exact this
theorem inn_meas {m : Mp} (hf : formed m = true) {c : Cl} (hc : inn m c = true) : meas c.1 c.2 = true := by
  obtain ⟨f1, f2, -⟩ := formed_of hf
  have p1 := holds_of hc
  unfold meas
  simp
  omega
theorem dist_inn {m : Mp} (hf : formed m = true) {c x : Cl} (hc : inn m c = true) (hx : inn m x = true) : dist c.1 c.2 x.1 x.2 = apt c.1 x.1 + apt c.2 x.2 := by
  unfold dist
  rw [inn_meas hf hc, inn_meas hf hx]
  rfl
theorem nr_apt {m : Mp} (hf : formed m = true) {c x : Cl} (hc : inn m c = true) (h : x ∈ nr m c) : apt c.1 x.1 + apt c.2 x.2 = 1 := by
  rw [nr_iff hf hc] at h
  obtain ⟨-, h⟩ := h
  rcases c with ⟨c1, c2⟩
  rcases x with ⟨x1, x2⟩
  simp only [Prod.mk.injEq] at h ⊢
  unfold apt
  omega
theorem wy_apt {m : Mp} {bl : List Cl} (hf : formed m = true) {b : Cl} : ∀ {n : Nat} {c : Cl}, inn m c = true → wy m bl b n c = true → apt c.1 b.1 + apt c.2 b.2 ≤ n
  | 0, c, _, hw => by
    rw [wy_zero] at hw
    subst hw
    unfold apt
    omega
  | n + 1, c, hc, hw => by
    obtain ⟨x, hx, -, hwx⟩ := wy_succ.1 hw
    have h1 := nr_apt hf hc hx
    have h2 := wy_apt hf (nr_in hf hx) hwx
    unfold apt at *
    omega
structure Walks (m : Mp) (bl : List Cl) (a b : Cl) (l : List Cl) : Prop where
  next : ∀ i, i < l.length → dist ((a :: l).getD i (0, 0)).1 ((a :: l).getD i (0, 0)).2 (l.getD i (0, 0)).1 (l.getD i (0, 0)).2 = 1
  ins : ∀ i, i < l.length → inn m (l.getD i (0, 0)) = true
  once : ∀ i, i < l.length → (l.take i).contains (l.getD i (0, 0)) = false
  free : ∀ i, i + 1 < l.length → free m (l.getD i (0, 0)).1 (l.getD i (0, 0)).2 = true ∧ bl.contains (l.getD i (0, 0)) = false ∧ l.getD i (0, 0) ≠ a
  last : (a :: l).getD l.length (0, 0) = b
  far : dist a.1 a.2 b.1 b.2 ≤ l.length
theorem walks_facts {m : Mp} {bl : List Cl} {a b : Cl} {n : Nat} (hf : formed m = true) (ha : inn m a = true) (hb : inn m b = true) (hd : ds m bl b n a = true) : Walks m bl a b (way m bl b n a) := by
  have hl := way_length hd
  have hr := fun i (hi : i < n) => way_rest hf hd i hi
  have hc := fun i (hi : i < n) => way_chain hd i hi
  generalize way m bl b n a = l at *
  have hp : ∀ i, i < n → inn m ((a :: l).getD i (0, 0)) = true := fun i hi => by
    cases i with
    | zero => exact ha
    | succ i => rw [List.getD_cons_succ]; exact (hr i (by omega)).1
  subst hl
  refine ⟨fun i hi => ?_, fun i hi => (hr i hi).1, fun i hi => ?_, fun i hi => ?_, ?_, ?_⟩
  · rw [dist_inn hf (hp i hi) (hr i hi).1]
    exact nr_apt hf (hp i hi) (hc i hi).1
  · cases h : (l.take i).contains (l.getD i (0, 0)) with
    | false => rfl
    | true =>
      rw [List.contains_iff_mem] at h
      obtain ⟨j, hj, he⟩ := List.getElem_of_mem h
      rw [List.length_take] at hj
      rw [List.getElem_take] at he
      have h1 := (hr j (by omega)).2.1
      have h2 := (hr i hi).2.1
      have e : l.getD j (0, 0) = l.getD i (0, 0) := by
        rw [← he, List.getD_eq_getElem?_getD, List.getElem?_eq_getElem (by omega)]; rfl
      rw [e] at h1
      have := ds_unique h1 h2
      omega
  · have h2 := (hr i (by omega)).2.1
    have hnb : l.getD i (0, 0) ≠ b := fun h => by
      have := ds_unique h2 (ds_zero.2 h)
      omega
    have hna : l.getD i (0, 0) ≠ a := fun h => by
      rw [h] at h2
      have := ds_unique h2 hd
      omega
    have h3 : pass m bl (l.getD i (0, 0)) = true := by
      rcases (hc i (by omega)).2 with h | h
      · exact absurd h hnb
      · exact h
    unfold pass inn at h3
    simp only [Bool.and_eq_true, Bool.not_eq_true'] at h3
    refine ⟨?_, h3.2, hna⟩
    unfold Go.Proofs.Ytemcbonmlmobkaa.free
    rw [hf, h3.1.1, h3.1.2]
    rfl
  · cases hn : l.length with
    | zero =>
      rw [hn, ds_zero] at hd
      exact hd
    | succ k =>
      rw [List.getD_cons_succ]
      have h2 := (hr k (by omega)).2.1
      rw [hn, show k + 1 - 1 - k = 0 by omega, ds_zero] at h2
      exact h2
  · rw [dist_inn hf ha hb]
    exact wy_apt hf ha (ds_iff.1 hd).1
theorem CellsAt.take {w : World} {p : Option Addr} {N cap : Nat} {xs : List Cl} (h : CellsAt w (.slice p N cap) xs) {i : Nat} (hi : i ≤ N) (c : Nat) : CellsAt w (.slice p i c) (xs.take i) := by
  obtain ⟨q, c', e, h⟩ := h
  simp only [Value.slice.injEq] at e
  obtain ⟨rfl, rfl, _⟩ := e
  have hl : (xs.take i).length = i := by rw [List.length_take]; omega
  refine ⟨p, c, by rw [hl], fun hne => ?_⟩
  obtain ⟨sb, so, e, h⟩ := h (by intro h0; rw [h0] at hne; exact hne (by simp))
  refine ⟨sb, so, e, fun j hj => ?_⟩
  rw [hl] at hj
  have e1 : (xs.take i).getD j (0, 0) = xs.getD j (0, 0) := by simp [List.getD_eq_getElem?_getD, hj]
  rw [e1]
  exact h j (by omega)
end Go.Proofs.Ytemcbonmlmobkaa
