/- What an index says (pure): the IDs at each cell, where each ID is, how many. -/
import Derived.Test.YtnilgnnlobiojaaEnter
namespace Go.Proofs.Ytnilgnnlobiojaa
open Go.RowKit
theorem insL_lt {x i : Int} {xs : List Int} (h : x < i) : insL (x :: xs) i = x :: insL xs i := by
  have h0 : plc (x :: xs) i = plc xs i + 1 := by
    unfold plc
    rw [List.countP_cons_of_pos (by simpa using h)]
  unfold insL
  rw [h0, List.take_succ_cons, List.drop_succ_cons, List.cons_append]
theorem insL_first {i : Int} {xs : List Int} (h : ∀ z ∈ xs, i ≤ z) : insL xs i = i :: xs := by
  have h0 : plc xs i = 0 := by
    unfold plc
    rw [List.countP_eq_zero]
    intro y hy
    have := h y hy
    simp; omega
  unfold insL
  rw [h0]; rfl
theorem insL_mem (xs : List Int) (i j : Int) : j ∈ insL xs i ↔ j = i ∨ j ∈ xs := by
  have h : j ∈ xs ↔ j ∈ xs.take (plc xs i) ++ xs.drop (plc xs i) := by rw [List.take_append_drop]
  rw [h]
  unfold insL
  simp only [List.mem_append, List.mem_cons]
  constructor
  · rintro (h | h | h)
    · exact Or.inr (Or.inl h)
    · exact Or.inl h
    · exact Or.inr (Or.inr h)
  · rintro (h | h | h)
    · exact Or.inr (Or.inl h)
    · exact Or.inl h
    · exact Or.inr (Or.inr h)
theorem insL_inc : ∀ (xs : List Int) (i : Int), xs.Pairwise (· < ·) → i ∉ xs → (insL xs i).Pairwise (· < ·)
  | [], i, _, _ => by rw [insL_first (by simp)]; simp
  | x :: xs, i, h, hn => by
    rw [List.pairwise_cons] at h
    simp only [List.mem_cons, not_or] at hn
    by_cases hx : x < i
    · rw [insL_lt hx, List.pairwise_cons]
      refine ⟨fun z hz => ?_, insL_inc xs i h.2 hn.2⟩
      rcases (insL_mem xs i z).1 hz with rfl | hz
      · exact hx
      · exact h.1 z hz
    · have hlt : i < x := by omega
      have h1 : ∀ z ∈ x :: xs, i < z := fun z hz => by
        rcases List.mem_cons.1 hz with rfl | hz
        · exact hlt
        · have := h.1 z hz; omega
      rw [insL_first fun z hz => by have := h1 z hz; omega, List.pairwise_cons]
      exact ⟨h1, List.pairwise_cons.2 h⟩
theorem nodup_le : ∀ (xs l : List Int), xs.Nodup → (∀ x ∈ xs, x ∈ l) → xs.length ≤ l.length
  | [], _, _, _ => by simp
  | x :: xs, l, h, hs => by
    rw [List.nodup_cons] at h
    have hx := hs x (by simp)
    have := nodup_le xs (l.erase x) h.2 fun y hy => by
      rw [List.mem_erase_of_ne (by rintro rfl; exact h.1 hy)]
      exact hs y (List.mem_cons_of_mem _ hy)
    rw [List.length_erase_of_mem hx] at this
    have hpos : 0 < l.length := List.length_pos_of_mem hx
    rw [List.length_cons]; omega
theorem inc_nodup {xs : List Int} (h : xs.Pairwise (· < ·)) : xs.Nodup := h.imp fun h => by omega
/-- The three say the same. -/
structure Ok (A : Cl → List Int) (F : Int → Option Cl) (n : Nat) : Prop where
  mem : ∀ c i, i ∈ A c ↔ F i = some c
  inc : ∀ c, (A c).Pairwise (· < ·)
  fin : ∃ l : List Int, l.length = n ∧ l.Nodup ∧ ∀ i, i ∈ l ↔ (F i).isSome = true
theorem Ok.empty : Ok (fun _ => []) (fun _ => none) 0 := ⟨fun _ _ => by simp, fun _ => List.Pairwise.nil, [], rfl, List.nodup_nil, fun _ => by simp⟩
theorem Ok.len {A : Cl → List Int} {F : Int → Option Cl} {n : Nat} (h : Ok A F n) (c : Cl) : (A c).length ≤ n := by
  obtain ⟨l, rfl, hl, hm⟩ := h.fin
  refine nodup_le _ _ (inc_nodup (h.inc c)) fun i hi => ?_
  rw [hm, (h.mem c i).1 hi]; rfl
theorem Ok.pos {A : Cl → List Int} {F : Int → Option Cl} {n : Nat} (h : Ok A F n) {i : Int} {c : Cl} (hi : F i = some c) : 0 < n := by
  obtain ⟨l, rfl, hl, hm⟩ := h.fin
  exact List.length_pos_of_mem ((hm i).2 (by rw [hi]; rfl))
theorem Ok.ins {A : Cl → List Int} {F : Int → Option Cl} {n : Nat} (h : Ok A F n) {i : Int} (hi : F i = none) (c : Cl) : Ok (insA A i c) (insF F i c) (n + 1) := by
  have hni : ∀ d, i ∉ A d := fun d hd => by rw [h.mem, hi] at hd; cases hd
  refine ⟨fun d j => ?_, fun d => ?_, ?_⟩
  · unfold insA insF setA
    by_cases hd : d = c
    · rw [if_pos hd, insL_mem, h.mem, hd]
      by_cases hj : j = i
      · rw [if_pos hj]; simp [hj]
      · rw [if_neg hj]; simp [hj]
    · rw [if_neg hd, h.mem]
      by_cases hj : j = i
      · rw [if_pos hj, hj, hi]
        simp only [reduceCtorEq, Option.some.injEq, false_iff]
        exact fun e => hd e.symm
      · rw [if_neg hj]
  · unfold insA setA
    by_cases hd : d = c
    · rw [if_pos hd]; exact insL_inc _ _ (h.inc c) (hni c)
    · rw [if_neg hd]; exact h.inc d
  · obtain ⟨l, rfl, hl, hm⟩ := h.fin
    refine ⟨i :: l, rfl, List.nodup_cons.2 ⟨fun hil => ?_, hl⟩, fun j => ?_⟩
    · rw [hm, hi] at hil; cases hil
    · unfold insF
      by_cases hj : j = i
      · rw [if_pos hj]; simp [hj]
      · rw [if_neg hj, List.mem_cons, hm]; simp [hj]
theorem Ok.rem {A : Cl → List Int} {F : Int → Option Cl} {n : Nat} (h : Ok A F n) {i : Int} {c : Cl} (hi : F i = some c) : Ok (remA A i c) (remF F i) (n - 1) := by
  refine ⟨fun d j => ?_, fun d => ?_, ?_⟩
  · unfold remA remF setA
    by_cases hd : d = c
    · rw [if_pos hd, List.mem_filter, h.mem, hd]
      by_cases hj : j = i
      · rw [if_pos hj]; simp [hj]
      · rw [if_neg hj]; simp [hj]
    · rw [if_neg hd, h.mem]
      by_cases hj : j = i
      · rw [if_pos hj, hj, hi]
        simp only [reduceCtorEq, Option.some.injEq, iff_false]
        exact fun e => hd e.symm
      · rw [if_neg hj]
  · unfold remA setA
    by_cases hd : d = c
    · rw [if_pos hd]; exact (h.inc c).filter _
    · rw [if_neg hd]; exact h.inc d
  · obtain ⟨l, rfl, hl, hm⟩ := h.fin
    have hil : i ∈ l := (hm i).2 (by rw [hi]; rfl)
    refine ⟨l.erase i, List.length_erase_of_mem hil, hl.erase i, fun j => ?_⟩
    unfold remF
    by_cases hj : j = i
    · rw [if_pos hj, hj]
      have := hl.not_mem_erase (a := i)
      simp [this]
    · rw [if_neg hj, List.mem_erase_of_ne hj, hm]
/-- The rows are what the places say: two that say the same of each ID are the same. -/
theorem inc_ext : ∀ {xs ys : List Int}, xs.Pairwise (· < ·) → ys.Pairwise (· < ·) → (∀ i, i ∈ xs ↔ i ∈ ys) → xs = ys
  | [], [], _, _, _ => rfl
  | [], y :: ys, _, _, h => absurd ((h y).2 (by simp)) (by simp)
  | x :: xs, [], _, _, h => absurd ((h x).1 (by simp)) (by simp)
  | x :: xs, y :: ys, hx, hy, h => by
    rw [List.pairwise_cons] at hx hy
    have hxy : x = y := by
      have h1 := (h x).1 (by simp)
      have h2 := (h y).2 (by simp)
      rcases List.mem_cons.1 h1 with e | h1
      · exact e
      · rcases List.mem_cons.1 h2 with e | h2
        · exact e.symm
        · have := hx.1 y h2
          have := hy.1 x h1
          omega
    subst hxy
    rw [inc_ext hx.2 hy.2 fun i => ?_]
    have := h i
    simp only [List.mem_cons] at this
    constructor
    · intro hi
      rcases this.1 (Or.inr hi) with rfl | h3
      · have := hx.1 i hi; omega
      · exact h3
    · intro hi
      rcases this.2 (Or.inr hi) with rfl | h3
      · have := hy.1 i hi; omega
      · exact h3
theorem Ok.same {A B : Cl → List Int} {F : Int → Option Cl} {n m : Nat} (h : Ok A F n) (k : Ok B F m) : A = B ∧ n = m := by
  constructor
  · funext c
    exact inc_ext (h.inc c) (k.inc c) fun i => by rw [h.mem, k.mem]
  · obtain ⟨l, rfl, hl, hm⟩ := h.fin
    obtain ⟨l', rfl, hl', hm'⟩ := k.fin
    have h1 := nodup_le l l' hl fun i hi => by rw [hm', ← hm]; exact hi
    have h2 := nodup_le l' l hl' fun i hi => by rw [hm, ← hm']; exact hi
    omega
/-- Is a cell one that an index takes? -/
def measC (c : Cl) : Bool := decide (-1000 ≤ c.1) && decide (c.1 ≤ 1000) && decide (-1000 ≤ c.2) && decide (c.2 ≤ 1000)
/-- What Put does to the IDs at each cell, to the places, to the count, and what it answers. -/
def offA (A : Cl → List Int) (F : Int → Option Cl) (i : Int) : Cl → List Int := match F i with | some d => remA A i d | none => A
def offN (F : Int → Option Cl) (i : Int) (n : Nat) : Nat := match F i with | some _ => n - 1 | none => n
def putE (F : Int → Option Cl) (n : Nat) (i : Int) (c : Cl) : Int := if measC c then (if (F i).isNone && n == 4096 then 6 else 0) else 2
theorem Ok.off {A : Cl → List Int} {F : Int → Option Cl} {n : Nat} (h : Ok A F n) (i : Int) : Ok (offA A F i) (remF F i) (offN F i n) := by
  unfold offA offN
  cases hi : F i with
  | some d => exact h.rem hi
  | none =>
    have : remF F i = F := by
      funext j
      unfold remF
      by_cases hj : j = i
      · rw [if_pos hj, hj, hi]
      · rw [if_neg hj]
    rw [this]; exact h
theorem remF_self (F : Int → Option Cl) (i : Int) : remF F i i = none := by unfold remF; rw [if_pos rfl]
theorem insF_rem (F : Int → Option Cl) (i : Int) (c : Cl) : insF (remF F i) i c = insF F i c := by
  funext j
  unfold insF remF
  by_cases hj : j = i
  · rw [if_pos hj, if_pos hj]
  · rw [if_neg hj, if_neg hj, if_neg hj]
end Go.Proofs.Ytnilgnnlobiojaa
