/- The reference's Find in Lean's words: from the last neighbour down to the first, the last one kept that fits. -/
import Derived.Test.YtemcbonmlmobkaaRefDis
import Derived.Test.YtemcbonmlmobkaaRestWay
namespace Go.Proofs.Ytemcbonmlmobkaa
open Go.RowKit
theorem fV_ds {m : Mp} {bl : List Cl} {b c : Cl} {n : Nat} (hf : formed m = true) (hb : inn m b = true) (hc : inn m c = true) : fV m bl b c = some n ↔ ds m bl b n c = true := by
  have go : ∀ k, fV m bl b c = some k → ds m bl b k c = true := fun k h => by
    unfold fV at h
    rw [List.find?_range_eq_some] at h
    exact ds_iff.2 ⟨h.1, fun j hj => by simpa using h.2.2 j hj⟩
  refine ⟨go n, fun h => ?_⟩
  obtain ⟨k, hk, he⟩ := (fV_field (bl := bl) hf hb).least c n hc (ds_iff.1 h).1
  rw [he, ds_unique (go k he) h]
theorem distV_ds {m : Mp} {bl : List Cl} {b c : Cl} {n : Nat} (hf : formed m = true) (hb : inn m b = true) (hc : inn m c = true) (hn : n ≤ 1000) : distV m bl b c = (n : Int) ↔ ds m bl b n c = true := by
  rw [← fV_ds hf hb hc]
  unfold distV
  cases h : fV m bl b c with
  | none => simp; omega
  | some k => simp; omega
theorem distV_none {m : Mp} {bl : List Cl} {b c : Cl} (hf : formed m = true) (hb : inn m b = true) (hc : inn m c = true) : 1000000 ≤ distV m bl b c ↔ ∀ n, wy m bl b n c = false := by
  unfold distV
  cases h : fV m bl b c with
  | none =>
    refine ⟨fun _ n => ?_, fun _ => Int.le_refl _⟩
    cases hw : wy m bl b n c with
    | false => rfl
    | true =>
      obtain ⟨k, _, he⟩ := (fV_field (bl := bl) hf hb).least c n hc hw
      rw [h] at he; cases he
  | some k =>
    obtain ⟨h1, h2⟩ := fV_some h
    refine ⟨fun hh => ?_, fun hh => ?_⟩
    · simp only at hh; omega
    · rw [hh k] at h1; cases h1
/-- Does x fit as the next cell from one that is n + 1 steps away? -/
def fits (m : Mp) (bl : List Cl) (b : Cl) (n : Nat) (x : Cl) : Bool := opB m bl b x && distV m bl b x == (n : Int)
/-- What the inner loop holds when the neighbours from k on have been looked at. -/
def nxt (p : Cl → Bool) (l : List Cl) (c : Cl) (k : Nat) : Cl := ((l.drop k).find? p).getD c
theorem nxt_end (p : Cl → Bool) (l : List Cl) (c : Cl) : nxt p l c l.length = c := by unfold nxt; simp
theorem nxt_yes {p : Cl → Bool} {l : List Cl} {c : Cl} {k : Nat} (hk : k < l.length) (h : p (l.getD k (0, 0)) = true) : nxt p l c k = l.getD k (0, 0) := by
  have e : l.getD k (0, 0) = l[k] := by rw [List.getD_eq_getElem?_getD, List.getElem?_eq_getElem hk]; rfl
  rw [e] at h ⊢
  unfold nxt
  rw [List.drop_eq_getElem_cons hk, List.find?_cons, h]
  rfl
theorem nxt_no {p : Cl → Bool} {l : List Cl} {c : Cl} {k : Nat} (hk : k < l.length) (h : p (l.getD k (0, 0)) = false) : nxt p l c k = nxt p l c (k + 1) := by
  have e : l.getD k (0, 0) = l[k] := by rw [List.getD_eq_getElem?_getD, List.getElem?_eq_getElem hk]; rfl
  rw [e] at h
  unfold nxt
  rw [List.drop_eq_getElem_cons hk, List.find?_cons, h]
theorem find_congr {p q : Cl → Bool} : ∀ {l : List Cl}, (∀ x ∈ l, p x = q x) → l.find? p = l.find? q
  | [], _ => rfl
  | x :: r, h => by
    rw [List.find?_cons, List.find?_cons, h x (by simp), find_congr fun y hy => h y (by simp [hy])]
/-- One round of the outer loop goes one step of the way. -/
theorem nxt_way {m : Mp} {bl : List Cl} {b c : Cl} {n : Nat} (hf : formed m = true) (hb : inn m b = true) (hn : n ≤ 1000) (hd : ds m bl b (n + 1) c = true) :
    way m bl b (n + 1) c = nxt (fits m bl b n) (nr m c) c 0 :: way m bl b n (nxt (fits m bl b n) (nr m c) c 0) ∧ ds m bl b n (nxt (fits m bl b n) (nr m c) c 0) = true ∧ inn m (nxt (fits m bl b n) (nr m c) c 0) = true := by
  obtain ⟨y, hy, hp, hyd⟩ := ds_succ hd
  have e : (nr m c).find? (fits m bl b n) = (nr m c).find? (fun x => (x == b || pass m bl x) && ds m bl b n x) := find_congr fun x hx => by
    have e1 : (distV m bl b x == (n : Int)) = ds m bl b n x := by
      rw [Bool.eq_iff_iff, beq_iff_eq]
      exact distV_ds hf hb (nr_in hf hx) hn
    unfold fits opB
    rw [e1]
  unfold nxt
  rw [List.drop_zero, e, way]
  cases hq : (nr m c).find? (fun x => (x == b || pass m bl x) && ds m bl b n x) with
  | none =>
    rw [List.find?_eq_none] at hq
    have := hq y hy
    rw [hyd, Bool.and_true] at this
    exact absurd (by rw [Bool.or_eq_true, beq_iff_eq]; exact hp) this
  | some x =>
    have h1 := List.find?_some hq
    rw [Bool.and_eq_true] at h1
    exact ⟨rfl, h1.2, nr_in hf (List.mem_of_find?_eq_some hq)⟩
end Go.Proofs.Ytemcbonmlmobkaa
