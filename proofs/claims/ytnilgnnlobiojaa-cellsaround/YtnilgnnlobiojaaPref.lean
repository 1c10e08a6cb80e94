/- A wider ring only adds behind (pure). -/
import Derived.Test.YtnilgnnlobiojaaAround
namespace Go.Proofs.Ytnilgnnlobiojaa
open Go.RowKit
def le2 (r : Int) (q : Fd) : Bool := decide (q.2 ≤ r)
theorem Sorted.filter_take (r : Int) : ∀ {s : List Fd}, Sorted s → s.filter (le2 r) = s.take (s.filter (le2 r)).length
  | [], _ => rfl
  | a :: s, h => by
    unfold Sorted at h
    rw [List.pairwise_cons] at h
    by_cases ha : le2 r a = true
    · have ih := Sorted.filter_take r (s := s) h.2
      rw [List.filter_cons_of_pos ha, List.length_cons, List.take_succ_cons, ← ih]
    · have h0 : s.filter (le2 r) = [] := by
        rw [List.filter_eq_nil_iff]
        intro q hq h1
        have h2 := h.1 q hq
        rw [ltF_not] at h2
        unfold le2 at ha h1
        have h1' : q.2 ≤ r := by simpa using h1
        have ha' : ¬ a.2 ≤ r := by simpa using ha
        omega
      rw [List.filter_cons_of_neg ha, h0]; rfl
theorem Ring.filter {F : Int → Option Cl} {x y r : Int} {sb : List Fd} (k : Ring F x y (r + 1) sb) : Ring F x y r (sb.filter (le2 r)) := by
  refine ⟨List.Pairwise.filter _ k.1, k.2.1.filter _, fun q => ?_⟩
  rw [List.mem_filter, k.2.2]
  unfold le2
  constructor
  · rintro ⟨⟨c, h1, h2, _⟩, h3⟩
    exact ⟨c, h1, h2, by simpa using h3⟩
  · rintro ⟨c, h1, h2, h3⟩
    exact ⟨⟨c, h1, h2, by omega⟩, by simpa using h3⟩
theorem Ring.pre {F : Int → Option Cl} {x y r : Int} {sa sb : List Fd} (h : Ring F x y r sa) (k : Ring F x y (r + 1) sb) : sa = sb.take sa.length ∧ sa.length ≤ sb.length ∧ ∀ i (hi : i < sb.length), sb[i].2 ≤ r ↔ i < sa.length := by
  have h1 : sa = sb.filter (le2 r) := h.ext k.filter
  have h2 := Sorted.filter_take r k.1
  rw [← h1] at h2
  have h3 : sa.length ≤ sb.length := by rw [h1]; exact List.length_filter_le _ _
  refine ⟨h2, h3, fun i hi => ⟨fun hr => ?_, fun hlt => ?_⟩⟩
  · have hm : sb[i] ∈ sa := by
      rw [h1, List.mem_filter]
      exact ⟨List.getElem_mem hi, by unfold le2; simpa using hr⟩
    obtain ⟨j, hj, he⟩ := List.getElem_of_mem hm
    have hjb : j < sb.length := by omega
    have h4 : sa[j] = sb[j] := by
      have h5 : sa[j]? = (sb.take sa.length)[j]? := by rw [← h2]
      rw [List.getElem?_take, if_pos hj, List.getElem?_eq_getElem hj, List.getElem?_eq_getElem hjb] at h5
      exact Option.some.inj h5
    have h6 : j = i := (List.getElem_inj k.2.1).1 (h4.symm.trans he)
    omega
  · have h4 : sa[i] = sb[i] := by
      have h5 : sa[i]? = (sb.take sa.length)[i]? := by rw [← h2]
      rw [List.getElem?_take, if_pos hlt, List.getElem?_eq_getElem hlt, List.getElem?_eq_getElem hi] at h5
      exact Option.some.inj h5
    obtain ⟨c, _, _, h7⟩ := (h.2.2 sa[i]).1 (List.getElem_mem hlt)
    rw [← h4]; exact h7
theorem Ring.at {F : Int → Option Cl} {x y r : Int} {s : List Fd} (k : Ring F x y r s) (i : Nat) (hi : i < s.length) : ∃ c, F s[i].1 = some c ∧ s[i].2 = dist x y c.1 c.2 ∧ s[i].2 ≤ r := (k.2.2 s[i]).1 (List.getElem_mem hi)
theorem Ring.step {F : Int → Option Cl} {x y r : Int} {s : List Fd} (k : Ring F x y r s) (i : Nat) (hi : i + 1 < s.length) : s[i].2 < s[i + 1].2 ∨ s[i].2 = s[i + 1].2 ∧ s[i].1 < s[i + 1].1 := by
  have h1 := List.pairwise_iff_getElem.1 k.1 i (i + 1) (by omega) hi (by omega)
  have h2 : s[i] ≠ s[i + 1] := fun e => by have := (List.getElem_inj k.2.1).1 e; omega
  by_cases h3 : ltF s[i] s[i + 1] = true
  · exact (ltF_iff _ _).1 h3
  · exact absurd (ltF_tri (by simpa using h3) h1) h2
end Go.Proofs.Ytnilgnnlobiojaa
