/- Distance by distance (pure). -/
import Derived.Test.YtnilgnnlobiojaaRefp
namespace Go.Proofs.Ytnilgnnlobiojaa
open Go.RowKit
/-- The IDs at distance d. -/
def md (x y d : Int) (R : List Pr) : List Int := (R.filter fun p => decide (dist x y p.2.1 p.2.2 = d)).map Prod.fst
theorem md_next (x y d : Int) {R : List Pr} {k : Nat} (hk : k < R.length) : md x y d (R.take (k + 1)) = if dist x y R[k].2.1 R[k].2.2 = d then md x y d (R.take k) ++ [R[k].1] else md x y d (R.take k) := by
  unfold md
  rw [List.take_succ_eq_append_getElem hk, List.filter_append, List.map_append]
  by_cases h : dist x y R[k].2.1 R[k].2.2 = d
  · rw [if_pos h, List.filter_cons_of_pos (by simpa using h)]; rfl
  · rw [if_neg h, List.filter_cons_of_neg (by simpa using h)]; simp
theorem md_len (x y d : Int) (R : List Pr) : (md x y d R).length ≤ R.length := by
  unfold md
  rw [List.length_map]
  exact List.length_filter_le _ _
theorem md_mem {F : Int → Option Cl} {R : List Pr} (h : Rep F R) (x y d i : Int) : i ∈ md x y d R ↔ ∃ c, F i = some c ∧ dist x y c.1 c.2 = d := by
  unfold md
  rw [List.mem_map]
  constructor
  · rintro ⟨⟨j, c⟩, hm, rfl⟩
    rw [List.mem_filter] at hm
    exact ⟨c, (h.2 j c).1 hm.1, by simpa using hm.2⟩
  · rintro ⟨c, h1, h2⟩
    exact ⟨(i, c), List.mem_filter.2 ⟨(h.2 i c).2 h1, by simpa using h2⟩, rfl⟩
theorem md_inc {F : Int → Option Cl} {R : List Pr} (h : Rep F R) (x y d : Int) : (md x y d R).Pairwise (· < ·) := List.pairwise_map.2 (h.1.filter _)
/-- The near ones that are nearer than d, in their order. -/
def RB (F : Int → Option Cl) (x y r d : Int) (s : List Fd) : Prop := Sorted s ∧ s.Nodup ∧ ∀ q, q ∈ s ↔ Near F x y r q ∧ q.2 < d
theorem dist_pos (x y a b : Int) : 0 ≤ dist x y a b := by
  unfold dist apt
  split
  · omega
  · omega
theorem RB.zero (F : Int → Option Cl) (x y r : Int) : RB F x y r 0 [] := by
  refine ⟨List.Pairwise.nil, List.nodup_nil, fun q => ⟨fun h => absurd h List.not_mem_nil, ?_⟩⟩
  rintro ⟨⟨c, _, h2, _⟩, h4⟩
  have := dist_pos x y c.1 c.2
  omega
/-- Those at one distance more, behind. -/
theorem RB.app {F : Int → Option Cl} {R : List Pr} (hr : Rep F R) {x y r d D : Int} {s : List Fd} (h : RB F x y r d s) (hd : d ≤ D) (hD : D ≤ r) :
    Sorted (s ++ (md x y D R).map fun i => (i, D)) ∧ (s ++ (md x y D R).map fun i => (i, D)).Nodup ∧ ∀ q, q ∈ s ++ (md x y D R).map (fun i => (i, D)) ↔ Near F x y r q ∧ (q.2 < d ∨ q.2 = D) := by
  refine ⟨?_, ?_, fun q => ?_⟩
  · unfold Sorted
    rw [List.pairwise_append]
    refine ⟨h.1, ?_, fun a ha b hb => ?_⟩
    · refine List.Pairwise.map _ (fun a b hab => ?_) (md_inc hr x y D)
      rw [ltF_not]; simp only; omega
    · obtain ⟨i, _, rfl⟩ := List.mem_map.1 hb
      have := ((h.2.2 a).1 ha).2
      rw [ltF_not]; simp only; omega
  · rw [List.nodup_append]
    refine ⟨h.2.1, ?_, fun a ha b hb => ?_⟩
    · refine List.Pairwise.map _ (fun a b hab e => ?_) (md_inc hr x y D)
      simp at e
      omega
    · obtain ⟨i, _, rfl⟩ := List.mem_map.1 hb
      have := ((h.2.2 a).1 ha).2
      rintro rfl
      simp only at this
      omega
  · rw [List.mem_append, h.2.2, List.mem_map]
    constructor
    · rintro (⟨h1, h2⟩ | ⟨i, hi, rfl⟩)
      · exact ⟨h1, Or.inl h2⟩
      · obtain ⟨c, h1, h2⟩ := (md_mem hr x y D i).1 hi
        exact ⟨⟨c, h1, h2.symm, hD⟩, Or.inr rfl⟩
    · rintro ⟨⟨c, h1, h2, h3⟩, h4 | h4⟩
      · exact Or.inl ⟨⟨c, h1, h2, h3⟩, h4⟩
      · exact Or.inr ⟨q.1, (md_mem hr x y D q.1).2 ⟨c, h1, by omega⟩, by rw [← h4]⟩
theorem RB.next {F : Int → Option Cl} {R : List Pr} (hr : Rep F R) {x y r d : Int} {s : List Fd} (h : RB F x y r d s) (hd : d ≤ r) : RB F x y r (d + 1) (s ++ (md x y d R).map fun i => (i, d)) := by
  obtain ⟨h1, h2, h3⟩ := h.app hr (Int.le_refl d) hd
  exact ⟨h1, h2, fun q => by rw [h3]; exact and_congr_right fun _ => by omega⟩
theorem dist_two (x y : Int) (c : Cl) : dist x y c.1 c.2 ≤ 4000 ∨ dist x y c.1 c.2 = 1000000 := by
  unfold dist
  by_cases hm : (meas x y && meas c.1 c.2) = true
  · rw [if_pos hm]
    rw [Bool.and_eq_true] at hm
    have h1 := meas_of hm.1
    have h2 := meas_of hm.2
    unfold apt
    left; omega
  · rw [if_neg hm]; right; rfl
theorem RB.ring {F : Int → Option Cl} {x y r d : Int} {s : List Fd} (h : RB F x y r d s) (hr : r < 1000000) (hd : 4100 < d ∨ r < d) : Ring F x y r s := by
  refine ⟨h.1, h.2.1, fun q => ?_⟩
  rw [h.2.2]
  refine ⟨fun h => h.1, fun hn => ⟨hn, ?_⟩⟩
  obtain ⟨c, h1, h2, h3⟩ := hn
  rcases dist_two x y c with h4 | h4 <;> omega
theorem RB.ringFar {F : Int → Option Cl} {R : List Pr} (hr : Rep F R) {x y r d : Int} {s : List Fd} (h : RB F x y r d s) (hrr : 1000000 ≤ r) (hd : 4100 < d) (hd2 : d ≤ 4101) : Ring F x y r (s ++ (md x y 1000000 R).map fun i => (i, (1000000 : Int))) := by
  obtain ⟨h1, h2, h3⟩ := h.app hr (D := 1000000) (by omega) hrr
  refine ⟨h1, h2, fun q => ?_⟩
  rw [h3]
  refine ⟨fun h => h.1, fun hn => ⟨hn, ?_⟩⟩
  obtain ⟨c, h4, h5, _⟩ := hn
  rcases dist_two x y c with h6 | h6 <;> omega
theorem RB.len {A : Cl → List Int} {F : Int → Option Cl} {n : Nat} (hok : Ok A F n) {x y r d : Int} {s : List Fd} (h : RB F x y r d s) : s.length ≤ n := by
  obtain ⟨m, rfl, _, hm⟩ := hok.fin
  have h1 : (s.map Prod.fst).Nodup := by
    refine List.pairwise_map.2 (h.2.1.imp_of_mem fun {p q} hp hq hne e => hne ?_)
    obtain ⟨⟨c, h1, h3, _⟩, _⟩ := (h.2.2 p).1 hp
    obtain ⟨⟨e', k1, k3, _⟩, _⟩ := (h.2.2 q).1 hq
    rw [e, k1] at h1
    cases h1
    exact Prod.ext e (by rw [h3, k3])
  have h2 := nodup_le (s.map Prod.fst) m h1 fun i hi => by
    obtain ⟨p, hp, rfl⟩ := List.mem_map.1 hi
    obtain ⟨⟨c, h1, _⟩, _⟩ := (h.2.2 p).1 hp
    rw [hm, h1]; rfl
  simpa using h2
end Go.Proofs.Ytnilgnnlobiojaa
