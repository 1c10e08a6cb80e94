/- The eyes that see furthest, at each cell one: what keenest answers, and that it sees the same. -/
import Derived.Test.YteijncfnifebjaaRefA
import Derived.Test.YteijncfnifebjaaFmap
namespace Go.Proofs.Yteijncfnifebjaa
open Go.RowKit
def atY (e : Int × Int × Int) : Int × Int := (e.1, e.2.1)
def idxY (ks : List (Int × Int × Int)) (c : Int × Int) : Option Nat := (ks.map atY).findIdx? fun d => decide (d = c)
def kstep (m : Mp) (ks : List (Int × Int × Int)) (e : Int × Int × Int) : List (Int × Int × Int) :=
  match idxY ks (atY e) with
  | some i => ks.set i (e.1, e.2.1, max (ks.getD i (0, 0, 0)).2.2 e.2.2)
  | none => if (formed m && holds m e.1 e.2.1) = true then ks ++ [e] else ks
def keenTo (m : Mp) (es : List (Int × Int × Int)) (n : Nat) : List (Int × Int × Int) := (es.take n).foldl (kstep m) []
def idxF (ks : List (Int × Int × Int)) : Int × Int → Option Value := fun c => (idxY ks c).map fun (i : Nat) => .int .i64 (i : Int)
theorem idxY_some {ks : List (Int × Int × Int)} {c : Int × Int} {i : Nat} (h : idxY ks c = some i) : ∃ hi : i < ks.length, atY ks[i] = c := by
  unfold idxY at h
  rw [List.findIdx?_eq_some_iff_getElem] at h
  obtain ⟨hi, h1, _⟩ := h
  have hi' : i < ks.length := by simpa using hi
  exact ⟨hi', by simpa using h1⟩
theorem idxY_set {ks : List (Int × Int × Int)} {c : Int × Int} {i : Nat} (h : idxY ks c = some i) (F : Int) (d : Int × Int) : idxY (ks.set i (c.1, c.2, F)) d = idxY ks d := by
  obtain ⟨hi, he⟩ := idxY_some h
  unfold idxY
  have e : (ks.set i (c.1, c.2, F)).map atY = ks.map atY := by
    rw [List.map_set]
    have h1 : atY (c.1, c.2, F) = (ks.map atY)[i]'(by simpa using hi) := by rw [List.getElem_map, he]; rfl
    rw [h1, List.set_getElem_self]
  rw [e]
theorem idxF_append {ks : List (Int × Int × Int)} {e : Int × Int × Int} (h : idxY ks (atY e) = none) : idxF (ks ++ [e]) = putF (idxF ks) (e.1, e.2.1) (.int .i64 (ks.length : Int)) := by
  funext d
  rw [show (e.1, e.2.1) = atY e from rfl]
  unfold idxF putF idxY at *
  rw [List.map_append, List.findIdx?_append]
  by_cases hd : d = atY e
  · subst hd
    rw [if_pos rfl, h]
    simp
  · have hd' : ¬ atY e = d := fun hh => hd hh.symm
    rw [if_neg hd]
    simp [hd']
theorem any_set {α : Type} (f : α → Bool) (g : Bool) (v : α) : ∀ (l : List α) (i : Nat) (hi : i < l.length), f v = (f l[i] || g) → (l.set i v).any f = (l.any f || g)
  | [], _, hi, _ => absurd hi (Nat.not_lt_zero _)
  | x :: xs, 0, _, h => by
    rw [List.set_cons_zero, List.any_cons, List.any_cons, h]
    simp only [List.getElem_cons_zero]
    cases f x <;> cases g <;> simp
  | x :: xs, i + 1, hi, h => by
    rw [List.set_cons_succ, List.any_cons, List.any_cons, any_set f g v xs i (by simpa using hi) (by simpa using h), Bool.or_assoc]
theorem vis1_max (m : Mp) (x y a b F G : Int) : vis1 m x y (a, b, max F G) = (vis1 m x y (a, b, F) || vis1 m x y (a, b, G)) := by
  unfold vis1
  simp only
  generalize dist a b x y = D
  cases sees m a b x y
  · simp
  · simp only [Bool.and_true]
    rw [Bool.eq_iff_iff, Bool.or_eq_true, decide_eq_true_iff, decide_eq_true_iff, decide_eq_true_iff]
    omega
theorem vis_kstep (m : Mp) (ks : List (Int × Int × Int)) (e : Int × Int × Int) (x y : Int) : vis m (kstep m ks e) x y = (vis m ks x y || vis1 m x y e) := by
  unfold kstep
  cases h : idxY ks (atY e) with
  | some i =>
    obtain ⟨hi, he⟩ := idxY_some h
    refine any_set _ _ _ _ i hi ?_
    rw [List.getD_eq_getElem?_getD, List.getElem?_eq_getElem hi, Option.getD_some]
    have h1 : ks[i] = (e.1, e.2.1, ks[i].2.2) := by
      have e1 : (ks[i].1, ks[i].2.1) = (e.1, e.2.1) := he
      simp only [Prod.mk.injEq] at e1
      rw [← e1.1, ← e1.2]
    rw [vis1_max]
    conv => rhs; rw [h1]
  | none =>
    show vis m (if (formed m && holds m e.1 e.2.1) = true then ks ++ [e] else ks) x y = _
    by_cases hf : (formed m && holds m e.1 e.2.1) = true
    · rw [if_pos hf]
      unfold vis
      rw [List.any_append, List.any_cons, List.any_nil, Bool.or_false]
    · rw [if_neg hf]
      have hf' : (formed m && holds m e.1 e.2.1) = false := by simpa using hf
      have : vis1 m x y e = false := by unfold vis1; rw [sees_from hf', Bool.and_false]
      rw [this, Bool.or_false]
theorem vis_fold (m : Mp) (x y : Int) : ∀ (es ks : List (Int × Int × Int)), vis m (es.foldl (kstep m) ks) x y = (vis m ks x y || vis m es x y)
  | [], ks => by simp [vis]
  | e :: es, ks => by
    rw [List.foldl_cons, vis_fold m x y es, vis_kstep]
    conv => rhs; unfold vis
    rw [List.any_cons, Bool.or_assoc]; rfl
theorem keenTo_vis (m : Mp) (es : List (Int × Int × Int)) (n : Nat) (hn : n = es.length) (x y : Int) : vis m (keenTo m es n) x y = vis m es x y := by
  unfold keenTo
  rw [hn, List.take_length, vis_fold]; rfl
theorem keenTo_succ (m : Mp) (es : List (Int × Int × Int)) (n : Nat) (hn : n < es.length) : keenTo m es (n + 1) = kstep m (keenTo m es n) es[n] := by
  unfold keenTo
  rw [List.take_succ_eq_append_getElem hn, List.foldl_append]; rfl
theorem kstep_length (m : Mp) (ks : List (Int × Int × Int)) (e : Int × Int × Int) : (kstep m ks e).length ≤ ks.length + 1 := by
  unfold kstep
  cases idxY ks (atY e) with
  | some i => simp
  | none =>
    show (if _ then _ else _ : List (Int × Int × Int)).length ≤ _
    split <;> simp
theorem keenTo_length (m : Mp) (es : List (Int × Int × Int)) : ∀ n, n ≤ es.length → (keenTo m es n).length ≤ n
  | 0, _ => by simp [keenTo]
  | n + 1, h => by
    rw [keenTo_succ m es n h]
    have := kstep_length m (keenTo m es n) es[n]
    have := keenTo_length m es n (by omega)
    omega
end Go.Proofs.Yteijncfnifebjaa
