/- The reference's row of what may not be gone through, in Lean's words. -/
import Derived.Test.YtemcbonmlmobkaaMade
import Derived.Test.YtemcbonmlmobkaaRefI
import Derived.Test.YtemcbonmlmobkaaOpen4
namespace Go.Proofs.Ytemcbonmlmobkaa
open Go.RowKit
/-- Block g holds the truths l. -/
def BB (w : World) (g : Nat) (l : List Bool) : Prop := Blk w g (l.map Value.bool) 4
theorem BB.cell {w : World} {g : Nat} {d : List Bool} (h : BB w g d) {i : Nat} (hi : i < d.length) : w.cell? ⟨g, i, none⟩ = some (.bool (d.getD i false)) := by
  rw [Blk.cell h, List.getElem?_map, List.getElem?_eq_getElem hi, List.getD_eq_getElem?_getD, List.getElem?_eq_getElem hi]
  rfl
theorem BB.set {w : World} {g : Nat} {d : List Bool} (h : BB w g d) (i : Nat) (v : Bool) : BB (w.setCell ⟨g, i, none⟩ (.bool v)) g (d.set i v) := by
  have := Blk.set h i (.bool v)
  unfold BB
  rw [List.map_set]
  exact this
def rocks (m : Mp) (k : Nat) : List Bool := (List.range k).map fun i => m.ts.getD i 0 == 1
theorem rocks_next (m : Mp) (k : Nat) : rocks m (k + 1) = rocks m k ++ [m.ts.getD k 0 == 1] := by
  unfold rocks
  rw [List.range_succ, List.map_append]; rfl
theorem rocks_len (m : Mp) (k : Nat) : (rocks m k).length = k := by unfold rocks; simp
def shutStep (m : Mp) (d : List Bool) (c : Cl) : List Bool := if inn m c then d.set (idx m c) true else d
/-- The row behind the first k blocked cells. -/
def noB (m : Mp) (bl : List Cl) (T k : Nat) : List Bool := (bl.take k).foldl (shutStep m) (rocks m T)
theorem noB_next {m : Mp} {bl : List Cl} {T k : Nat} (hk : k < bl.length) : noB m bl T (k + 1) = shutStep m (noB m bl T k) (bl.getD k (0, 0)) := by
  unfold noB
  have e : bl.take (k + 1) = bl.take k ++ [bl.getD k (0, 0)] := by
    rw [List.take_add_one, List.getD_eq_getElem?_getD, List.getElem?_eq_getElem hk]; rfl
  rw [e, List.foldl_append]; rfl
theorem shutStep_len (m : Mp) (d : List Bool) (c : Cl) : (shutStep m d c).length = d.length := by
  unfold shutStep
  split
  · rw [List.length_set]
  · rfl
theorem noB_len (m : Mp) (bl : List Cl) (T k : Nat) : (noB m bl T k).length = T := by
  unfold noB
  have : ∀ (l : List Cl) (d : List Bool), (l.foldl (shutStep m) d).length = d.length := by
    intro l
    induction l with
    | nil => intro d; rfl
    | cons c r ih => intro d; rw [List.foldl_cons, ih, shutStep_len]
  rw [this, rocks_len]
theorem shutStep_get {m : Mp} {T : Nat} (hf : formed m = true) (hT : m.W * m.H = (T : Int)) {d : List Bool} (hd : d.length = T) (c : Cl) {i : Nat} (hi : i < T) : (shutStep m d c).getD i false = (d.getD i false || cellOf m i == c) := by
  unfold shutStep
  cases hc : inn m c with
  | true =>
    simp only [if_true]
    have hl := (idx_lt hf hT hc).1
    rw [List.getD_eq_getElem?_getD, List.getElem?_set, List.getD_eq_getElem?_getD]
    by_cases h : idx m c = i
    · rw [if_pos h, if_pos (by omega), ← h, cell_idx hf hc]
      simp
    · rw [if_neg h]
      have : (cellOf m i == c) = false := by
        rw [beq_eq_false_iff_ne]
        intro he
        rw [← he, idx_cell hf] at h
        exact h rfl
      rw [this, Bool.or_false]
  | false =>
    have : (cellOf m i == c) = false := by
      rw [beq_eq_false_iff_ne]
      intro he
      rw [← he, cell_in hf hT hi] at hc
      cases hc
    simp [this]
theorem noB_done {m : Mp} {bl : List Cl} {T : Nat} (hf : formed m = true) (hT : m.W * m.H = (T : Int)) {i : Nat} (hi : i < T) : (noB m bl T bl.length).getD i false = !pass m bl (cellOf m i) := by
  have key : ∀ (l : List Cl) (d : List Bool), d.length = T → (l.foldl (shutStep m) d).getD i false = (d.getD i false || l.contains (cellOf m i)) := by
    intro l
    induction l with
    | nil => intro d hd; simp
    | cons c r ih =>
      intro d hd
      rw [List.foldl_cons, ih _ (by rw [shutStep_len]; exact hd), shutStep_get hf hT hd c hi, List.contains_cons, Bool.or_assoc]
  unfold noB
  rw [List.take_length, key _ _ (rocks_len m T)]
  have e : (rocks m T).getD i false = rock m (cellOf m i).1 (cellOf m i).2 := by
    unfold rocks rock
    rw [List.getD_eq_getElem?_getD, List.getElem?_map, List.getElem?_range hi]
    have h := idx_cell hf i
    unfold idx at h
    rw [h]
    rfl
  rw [e]
  unfold pass
  rw [cell_in hf hT hi]
  simp
end Go.Proofs.Ytemcbonmlmobkaa
