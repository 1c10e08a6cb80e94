/- A region that draws its order, in which two operations come up at once, each with an order of its own behind it. -/
import Derived.Test.YtjkcmedmojidgaaFork
namespace Go.Proofs.Ytjkcmedmojidgaa
open Go.RowKit
def forkOk2 (md : Region.Mode) (ops : Array Oper) (i j : Nat) (r1 r2 : List (Nat × Bool)) : List Nat → Array Bool → Bool
  | [], listed => (Region.ready md ops listed == [i, j]) && (planOk md ops r1 (listed.setIfInBounds i true) && planOk md ops r2 (listed.setIfInBounds j true))
  | k :: r0, listed => Region.free md ops listed k && (Region.ready md ops listed).contains k && forkOk2 md ops i j r1 r2 r0 (listed.setIfInBounds k true)
section
variable {P : Program} {ops : Array Oper} {Q : Exit → Act → World → Prop} {S : World → Prop}
def wpFork2 (P : Program) (ops : Array Oper) (Q : Exit → Act → World → Prop) (S : World → Prop) (i j : Nat) (r1 r2 : List (Nat × Bool)) : List Nat → Act → World → Prop
  | [], a, w => wpPlan P ops Q S ((i, true) :: r1) a w ∧ wpPlan P ops Q S ((j, true) :: r2) a w
  | k :: r0, a, w => ∃ o, ops[k]? = some o ∧ (if Region.wanted o (yielded ops a.tmps) = true then ∃ v, (∀ x, S x → (execOp a.eval o).run P x = .ok (.value v) x) ∧ wpFork2 P ops Q S i j r1 r2 r0 (a.put o.dst v) w else wpFork2 P ops Q S i j r1 r2 r0 (a.put o.dst undef) w)
theorem anyH_of_fork2 {md : Region.Mode} (hsel : Region.noSelect ops = true) (hQ : ∀ (d : Option Tmp) (v : Value) c a w, Q (.panic c) (a.put d v) w → Q (.panic c) a w) (i j : Nat) (r1 r2 : List (Nat × Bool)) (hr : r2.length = r1.length) :
    ∀ (r0 : List Nat) (listed : Array Bool) (a : Act) (w : World), forkOk2 md ops i j r1 r2 r0 listed = true → S w → wpFork2 P ops Q S i j r1 r2 r0 a w → wpAnyH P md ops Q S (r0.length + (r1.length + 1)) listed a w
  | [], listed, a, w, hok, hS, h => by
    simp only [forkOk2, Bool.and_eq_true] at hok
    obtain ⟨hr', h1, h2⟩ := hok
    obtain ⟨⟨o, ho, k1⟩, ⟨o', ho', k2⟩⟩ := h
    rw [show ([] : List Nat).length + (r1.length + 1) = r1.length + 1 by simp]
    refine wpAnyH_ready (rs := [i, j]) (by simpa using hr') (by simp) (AllReadyH.cons ho (fun K hK => ?_) (AllReadyH.cons ho' (fun K hK => ?_) AllReadyH.nil))
    · by_cases hw : Region.wanted o (yielded ops a.tmps) = true
      · rw [if_pos hw] at k1 ⊢
        exact Oper.wp_mono (fun a' w' ⟨hS', hp⟩ => hK.out a' w' hS' (fun _ => anyH_of_plan hsel hQ r1 _ _ _ h1 hS' hp)) k1
      · rw [if_neg hw] at k1 ⊢
        exact hK.out _ _ hS (fun _ => anyH_of_plan hsel hQ r1 _ _ _ h1 hS k1)
    · rw [← hr] at *
      by_cases hw : Region.wanted o' (yielded ops a.tmps) = true
      · rw [if_pos hw] at k2 ⊢
        exact Oper.wp_mono (fun a' w' ⟨hS', hp⟩ => hK.out a' w' hS' (fun _ => anyH_of_plan hsel hQ r2 _ _ _ h2 hS' hp)) k2
      · rw [if_neg hw] at k2 ⊢
        exact hK.out _ _ hS (fun _ => anyH_of_plan hsel hQ r2 _ _ _ h2 hS k2)
  | k :: r0, listed, a, w, hok, hS, h => by
    simp only [forkOk2, Bool.and_eq_true] at hok
    obtain ⟨o, ho, h⟩ := h
    rw [show (k :: r0).length + (r1.length + 1) = (r0.length + (r1.length + 1)) + 1 by simp; omega]
    by_cases hw : Region.wanted o (yielded ops a.tmps) = true
    · rw [if_pos hw] at h
      obtain ⟨v, hy, h⟩ := h
      exact wpAnyH_take ho hsel hok.1.1 hok.1.2 (hQ _ _) (Or.inl ⟨hw, hy⟩) hS (anyH_of_fork2 hsel hQ i j r1 r2 hr r0 _ _ _ hok.2 hS h)
    · rw [if_neg hw] at h
      exact wpAnyH_take ho hsel hok.1.1 hok.1.2 (hQ _ _) (Or.inr ⟨by simpa using hw, rfl⟩) hS (anyH_of_fork2 hsel hQ i j r1 r2 hr r0 _ _ _ hok.2 hS h)
theorem wp_region_fork2 {id : Nat} {a : Act} {w : World} {l : List Oper} (r0 : List Nat) (i j : Nat) (r1 r2 : List (Nat × Bool)) (hm : P.follows .mixedOrders = true) (hsel : Region.noSelect l.toArray = true) (hr : r2.length = r1.length) (hlen : r0.length + (r1.length + 1) = l.length) (hok : forkOk2 .any l.toArray i j r1 r2 r0 (Array.replicate l.length false) = true) (hS : S w.drew)
    (h : wpFork2 P l.toArray (fun e a' w' => e = .normal ∧ Q .normal a' w') S i j r1 r2 r0 a w.drew) : (Code.region id l.toArray true).wp P Q a w := by
  have h2 : (Code.region id l.toArray true).wp P (fun e a' w' => e = .normal ∧ Q .normal a' w') a w := by
    refine wp_region_held (S := S) hm ?_
    have := anyH_of_fork2 (md := .any) (Q := fun e a' w' => e = .normal ∧ Q .normal a' w') hsel (fun _ _ _ _ _ h => by cases h.1) i j r1 r2 hr r0 (Array.replicate l.length false) a w.drew hok hS h
    rw [hlen] at this
    exact this
  refine Code.wp_mono ?_ h2
  rintro e a w ⟨rfl, h⟩
  exact h
theorem fork2_take {i j : Nat} {r1 r2 : List (Nat × Bool)} {k : Nat} {r0 : List Nat} {a : Act} {w : World} {o : Oper} (ho : ops[k]? = some o)
    (h : ∀ K : Act → Prop, (∀ a, wpFork2 P ops Q S i j r1 r2 r0 a w → K a) → if Region.wanted o (yielded ops a.tmps) = true then ∃ v, (∀ x, S x → (execOp a.eval o).run P x = .ok (.value v) x) ∧ K (a.put o.dst v) else K (a.put o.dst undef)) : wpFork2 P ops Q S i j r1 r2 (k :: r0) a w :=
  ⟨o, ho, h (fun a => wpFork2 P ops Q S i j r1 r2 r0 a w) (fun _ h => h)⟩
theorem fork2_both {i j : Nat} {r1 r2 : List (Nat × Bool)} {a : Act} {w : World} (h1 : wpPlan P ops Q S ((i, true) :: r1) a w) (h2 : wpPlan P ops Q S ((j, true) :: r2) a w) : wpFork2 P ops Q S i j r1 r2 [] a w := ⟨h1, h2⟩
end
end Go.Proofs.Ytjkcmedmojidgaa
